/-
  The library's iterator over chunks of bytes (slices.Chunk).
  Bytes are written to an area, block by block (wal's write).
  One step behind the other, until one has an error (wal's steps).
  The steps of an Append.
-/
import Derived.Test.YtnhegnncmjmafaaWlCo
import Derived.Test.YtnhegnncmjmafaaWalkJ
import Derived.Test.YtnhegnncmjmafaaForkT
namespace Go.Proofs.Ytnhegnncmjmafaa
open Go.RowKit Go.BigFrame
set_option linter.unusedVariables false
attribute [local go_sem] Oper.semAt_some

/-- The pieces of m bytes. -/
abbrev Pc (m : Nat) := { j : Nat // 256 * j < m }
def plen (m j : Nat) : Nat := min 256 (m - 256 * j)
def pcEnc (A : Option Addr) (m : Nat) (x : Pc m) : Array Value := #[.slice (A.map (·.add (256 * x.1))) (plen m x.1) (plen m x.1)]
def uptoc (m k : Nat) : List (Pc m) := (List.range k).filterMap (fun j => if h : 256 * j < m then some ⟨j, h⟩ else none)
theorem uptoc_succ (m k : Nat) (h : 256 * k < m) : uptoc m (k + 1) = uptoc m k ++ [⟨k, h⟩] := by
  unfold uptoc
  rw [List.range_succ, List.filterMap_append]
  simp [h]
theorem uptoc_map (m : Nat) : ∀ k, 256 * k < m + 256 → (uptoc m k).map (·.1) = List.range k
  | 0, _ => rfl
  | k + 1, h => by rw [uptoc_succ m k (by omega), List.map_append, uptoc_map m k (by omega), List.range_succ]; rfl
theorem uptoc_length (m k : Nat) (h : 256 * k < m + 256) : (uptoc m k).length = k := by
  have := congrArg List.length (uptoc_map m k h)
  simpa using this
theorem chunk_any (A : Option Addr) (n c : Nat) (w : World) : Calls Try.prog 60 #[.slice A n c, .int .i64 256] w fun e w' =>
    e = .returned (.func (.func 70) #[] #[.pointer (some ⟨w.heap.size, 0, none⟩), .pointer (some ⟨w.heap.size + 1, 0, none⟩)]) ∧ w' = (w.alloc (.cells #[.slice A n c] 33)).alloc (.cells #[.int .i64 256] 3) := by
  go_enter Try.func60, Try.ntmps60
  go_wp2
  go_ret
  exact ⟨rfl, rfl⟩
theorem slice_from (V : World) (ad : Addr) (m c i : Nat) (him : i ≤ m) (hmc : m ≤ c) (hlt : i < c) : (Instr.sliceAt 33 (.slice (some ad) m c) (some (.int .i64 (i : Int))) none none).run Try.prog V = .ok (.slice (some (ad.add i)) (m - i) (c - i)) V := by
  have hu : Try.prog.underlying 33 = some (.slice (Try.prog.elem 33)) := by kernel_rfl
  have hs : ∀ V, (sizeOf (Try.prog.elem 33)).run Try.prog V = .ok 1 V := fun V => by kernel_rfl
  have hne : ¬ c = i := by omega
  rw [run_sliceAt_slice V 33 _ _ _ _ hu, run_slice_l (P := Try.prog) V 33 (some ad) m c hu .i64 (i : Int) (by omega) (by omega), hs]
  simp only [Result.andThen, sliced, Int.toNat_natCast, Nat.mul_one, if_neg hne, Option.map_some]
set_option maxRecDepth 100000 in
set_option maxHeartbeats 4000000 in
theorem chunk1_in (n : Nat) (l Bs Bn : Nat) (A : Option Addr) (m c B0 : Nat) (Kp : World → World → Prop) (hKr : ∀ W, Kp W W) (hKt : ∀ {A B C : World}, Kp A B → Kp B C → Kp A C) (hKd : ∀ W nd, Kp W (W.drewN nd)) (J Jx : List (Pc m) → World → Prop) (hJ : AbidesFrom B0 J)
    (hY : ∀ pre x W, J pre W → pre.length < (m + 255) / 256 → YieldAt Fence.wide (n - 1) Try.prog l (pcEnc A m x) W fun e W' => (e = .returned (.bool true) ∧ J (pre ++ [x]) W' ∧ Kp W W') ∨ (e = .returned (.bool false) ∧ Jx (pre ++ [x]) W'))
    (W : World) (hK : ∀ V, Kp W V → V.cell? ⟨Bs, 0, none⟩ = some (.slice A m c) ∧ V.cell? ⟨Bn, 0, none⟩ = some (.int .i64 256)) (hm : m ≤ 100000000) (hmc : m ≤ c) (hc : c ≤ 9223372036854775807) (hA : 0 < m → ∃ ad, A = some ad) (h0 : J [] W) :
    CallsIn Fence.wide n Try.prog 70 #[.func (.yield l) #[] #[], .pointer (some ⟨Bs, 0, none⟩), .pointer (some ⟨Bn, 0, none⟩)] W fun e W' => (∃ v, e = .returned v) ∧
      ((∃ ys, ys = uptoc m ((m + 255) / 256) ∧ J ys W') ∨ (∃ pre, (∃ k, 256 * k < m ∧ pre = uptoc m (k + 1)) ∧ Jx pre W')) := by
  have hc0 := (hK W (hKr W)).1
  have hc1 := (hK W (hKr W)).2
  have HK := Lib.hid hK
  have HY := Lib.hid hY
  have HJ := Lib.hid hJ
  have HA := Lib.hid hA
  clear hK hY hJ hA
  refine callsIn_of_wp Try.func70 rfl trivial ?_ rfl
  simp only [Try.ntmps70, List.size_toArray, List.length_cons, List.length_nil, Nat.reduceAdd, Nat.reduceSub, Array.replicate_succ, Array.replicate_zero, List.push_toArray, List.append_toArray, List.nil_append, List.cons_append]
  gi_wp2
  gi_loopw [4, 5] (fun iv _ wr => ∃ k : Nat, 256 * k < m + 256 ∧ iv = .int .i64 ((256 * k : Nat) : Int) ∧ J (uptoc m k) wr ∧ Kp W wr) (fun iv _ _ => (m + 256) - (intOf iv).toNat)
  case atStart => exact ⟨0, by omega, by go_num, h0, hKr W⟩
  case round =>
    clear hc0 hc1
    obtain ⟨k, hk, rfl, hJs, hkp⟩ := hrel
    obtain ⟨hcs, hcn⟩ := HK.out wr hkp
    obtain ⟨i, hi⟩ : ∃ i, 256 * k = i := ⟨_, rfl⟩
    rw [hi]
    have HI := Lib.hid hi
    by_cases hlt : i < m
    · have hil : (i : Int) < (m : Int) := by omega
      obtain ⟨ad, rfl⟩ := HA.out (by omega)
      obtain ⟨r, hr⟩ : ∃ r, m - i = r := ⟨_, rfl⟩
      obtain ⟨cr, hcr⟩ : ∃ r, c - i = r := ⟨_, rfl⟩
      obtain ⟨q, hq⟩ : ∃ q, min 256 r = q := ⟨_, rfl⟩
      have HN0 : Hid (∀ V, (∃ nd, V = wr.drewN nd) → V.cell? ⟨Bn, 0, none⟩ = some (.int .i64 256)) := Lib.hid (fun V hV => by obtain ⟨nd, rfl⟩ := hV; exact hcn)
      have HS0 : Hid (∀ V, (∃ nd, V = wr.drewN nd) → V.cell? ⟨Bs, 0, none⟩ = some (.slice (some ad) m c)) := Lib.hid (fun V hV => by obtain ⟨nd, rfl⟩ := hV; exact hcs)
      have HSL : Hid (∀ V : World, (Instr.sliceAt 33 (.slice (some ad) m c) (some (.int .i64 (i : Int))) none none).run Try.prog V = .ok (.slice (some (ad.add i)) r cr) V) := Lib.hid (fun V => by rw [← hr, ← hcr]; exact slice_from V ad m c i (by omega) hmc (by omega))
      have HMN : Hid (∀ V : World, (Builtin.min_ #[3, 3] 3 #[.int .i64 256, .int .i64 (r : Int)]).run Try.prog V = .ok (.int .i64 (q : Int)) V) := Lib.hid (fun V => min_two V _ _ 256 r q hq)
      gi_wp2
      refine wpIn_wide.2 ?_
      refine wp_region_class (fun V => ∃ nd, V = wr.drewN nd) (by kernel_rfl) (by kernel_rfl) (⟨1, rfl⟩) ?_
      refine class_cell (by rfl) 3 (.tmp 2) (by rfl) ⟨Bn, 0, none⟩ (by rfl) (.int .i64 256) _ (fun V hV => HN0.out V hV) Try.underlying3 rfl ?_
      simp only [Act.put, List.setIfInBounds_toArray, List.set_cons_zero, List.set_cons_succ]
      refine class_cell (by rfl) 33 (.tmp 1) (by rfl) ⟨Bs, 0, none⟩ (by rfl) (.slice (some ad) m c) _ (fun V hV => HS0.out V hV) Try.underlying33 rfl ?_
      simp only [Act.put, List.setIfInBounds_toArray, List.set_cons_zero, List.set_cons_succ]
      refine class_value (by rfl) (.int .i64 (i : Int)) (fun V hV => by go_simp) ?_
      simp only [Act.put, List.setIfInBounds_toArray, List.set_cons_zero, List.set_cons_succ]
      refine class_value (by rfl) (.slice (some (ad.add i)) r cr) (fun V hV => by have hsl := HSL.out V; go_simp) ?_
      simp only [Act.put, List.setIfInBounds_toArray, List.set_cons_zero, List.set_cons_succ]
      refine class_value (by rfl) (.int .i64 (r : Int)) (fun V hV => by go_simp) ?_
      simp only [Act.put, List.setIfInBounds_toArray, List.set_cons_zero, List.set_cons_succ]
      refine class_value (by rfl) (.int .i64 (q : Int)) (fun V hV => by have hmn := HMN.out V; go_simp) ?_
      simp only [Act.put, List.setIfInBounds_toArray, List.set_cons_zero, List.set_cons_succ]
      refine class_value (by rfl) (.int .i64 (q : Int)) (fun V hV => by go_simp) ?_
      simp only [Act.put, List.setIfInBounds_toArray, List.set_cons_zero, List.set_cons_succ]
      refine wpQuiet_nil ?_
      rintro V ⟨nd, rfl⟩
      have hJd : J (uptoc m k) (wr.drewN nd) := HJ.out _ wr (wr.drewN nd) none hJs ⟨rfl, rfl, rfl, Nat.le_refl _, fun _ _ _ => rfl⟩ (fun r e => by cases e)
      have hkd : Kp W (wr.drewN nd) := hKt hkp (hKd wr nd)
      obtain ⟨fn, tmps, assign, body, hy, hR⟩ := HY.out _ ⟨k, by omega⟩ (wr.drewN nd) hJd (by rw [uptoc_length m k hk]; omega)
      unfold pcEnc at hy
      simp only [Option.map_some] at hy
      rw [show plen m k = q by unfold plen; rw [hi, hr, hq], hi] at hy
      have hcs2 : (wr.drewN nd).cell? ⟨Bs, 0, none⟩ = some (.slice (some ad) m c) := hcs
      have hqm : i + q ≤ m := by omega
      have eiq : IntKind.i64.wrap ((i : Int) + (q : Int)) = ((i + q : Nat) : Int) := by rw [IntWalk.i64_in _ (by omega)]; omega
      have hSUCC := uptoc_succ m k (by omega)
      have HSUCC := Lib.hid hSUCC
      clear hSUCC hJs hcs hcn HN0 HS0 HSL HMN hJd
      gi_wp2
      refine ⟨fun hh => (by simp [Fence.wide] at hh), hR.mono ?_⟩
      have HKD := Lib.hid hkd
      clear hkd hy hR hcs2 hkp
      rintro e W3 (⟨rfl, hJ3, hk3⟩ | ⟨rfl, hJx3⟩)
      · have e4 : IntKind.i64.wrap ((i : Int) + 256) = ((256 * (k + 1) : Nat) : Int) := by rw [IntWalk.i64_in _ (by omega)]; omega
        have hcn3 := (HK.out W3 (hKt HKD.out hk3)).2
        have HJ3 := Lib.hid hJ3
        have HK3 := Lib.hid hk3
        clear hJ3 hk3 eiq
        gi_wp2
        go_roundw
        case rel => exact ⟨k + 1, by have := HI.out; omega, by have := HI.out; go_num, by rw [HSUCC.out]; exact HJ3.out, hKt HKD.out HK3.out⟩
        case measure => have := HI.out; simp [intOf]; omega
      · gi_wp2
        refine bodyPost_ret (results_none rfl _ _ _) rfl ?_
        exact ⟨⟨_, rfl⟩, .inr ⟨_, ⟨k, by have := HI.out; omega, HSUCC.out.symm⟩, hJx3⟩⟩
    · have hil : ¬ (i : Int) < (m : Int) := by omega
      have hk' : k = (m + 255) / 256 := by omega
      have hJe : J (uptoc m ((m + 255) / 256)) wr := by rw [← hk']; exact hJs
      have HJE := Lib.hid hJe
      clear hJe hJs hk' hcn
      gi_wp2
      go_end0
      first | exact ⟨⟨_, rfl⟩, .inl ⟨_, rfl, HJE.out⟩⟩ | exact ⟨⟨_, rfl⟩, .inl HJE.out⟩
end Go.Proofs.Ytnhegnncmjmafaa
namespace Go.Proofs.Ytnhegnncmjmafaa
open Go.RowKit Go.BigFrame
set_option linter.unusedVariables false
attribute [local go_sem] Oper.semAt_some

namespace Wl
/-- A piece is written, unless there is an error. -/
def wstep (i : Nat) (b : Bs) (st : Nat × Int × Dk.St) (x : Nat) : Nat × Int × Dk.St :=
  if st.2.1 ≠ 0 then (st.1 + 1, st.2) else (st.1 + 1, Dk.wrE st.2.2 ((i + st.1 : Nat) : Int) 256, Dk.wr st.2.2 ((i + st.1 : Nat) : Int) 256 (blk b x))
def wstL (s : Dk.St) (i : Nat) (b : Bs) (xs : List Nat) : Nat × Int × Dk.St := xs.foldl (wstep i b) (0, 0, s)
theorem wstL_snoc (s : Dk.St) (i : Nat) (b : Bs) (xs : List Nat) (x : Nat) : wstL s i b (xs ++ [x]) = wstep i b (wstL s i b xs) x := by unfold wstL; rw [List.foldl_append]; rfl
theorem wstL_len (s : Dk.St) (i : Nat) (b : Bs) (xs : List Nat) : (wstL s i b xs).1 = xs.length := by
  have h : ∀ (xs : List Nat) (st : Nat × Int × Dk.St), (xs.foldl (wstep i b) st).1 = st.1 + xs.length := by
    intro xs
    induction xs with
    | nil => intro st; rfl
    | cons x xs ih =>
      intro st
      rw [List.foldl_cons, ih, List.length_cons]
      unfold wstep
      split
      · show st.1 + 1 + _ = _; omega
      · show st.1 + 1 + _ = _; omega
  unfold wstL
  rw [h]
  show 0 + _ = _
  omega
theorem wstL_range (s : Dk.St) (i : Nat) (b : Bs) (j : Nat) : wstL s i b (List.range j) = (j, wst s i b j) := by
  induction j with
  | zero => rfl
  | succ j ih =>
    rw [List.range_succ, wstL_snoc, ih]
    unfold wstep
    have e : wst s i b (j + 1) = if (wst s i b j).1 ≠ 0 then wst s i b j else (Dk.wrE (wst s i b j).2 ((i + j : Nat) : Int) 256, Dk.wr (wst s i b j).2 ((i + j : Nat) : Int) 256 (blk b j)) := rfl
    rw [e]
    by_cases h : (wst s i b j).1 ≠ 0
    · rw [if_pos h, if_pos h]
    · rw [if_neg h, if_neg h]
theorem wstL_loose (s : Dk.St) (i : Nat) (b : Bs) (xs : List Nat) : (wstL s i b xs).2.2.loose.length ≤ s.loose.length + xs.length := by
  have h : ∀ (xs : List Nat) (st : Nat × Int × Dk.St), (xs.foldl (wstep i b) st).2.2.loose.length ≤ st.2.2.loose.length + xs.length := by
    intro xs
    induction xs with
    | nil => intro st; exact Nat.le_refl _
    | cons x xs ih =>
      intro st
      rw [List.foldl_cons, List.length_cons]
      refine Nat.le_trans (ih _) ?_
      unfold wstep
      split
      · show st.2.2.loose.length + _ ≤ _; omega
      · show (Dk.wr _ _ _ _).loose.length + _ ≤ _
        have := Dk.wr_length st.2.2 ((i + st.1 : Nat) : Int) 256 (blk b x)
        omega
  exact h xs _
end Wl
theorem DskM.grown {w w' : World} {F : Nat → Prop} {g gb lb : Nat} {s : Dk.St} {row : Option Nat} (h : DskM w F g s gb lb) (hg : w.grownBy w' row) (hr : ∀ r, row = some r → r ≠ gb ∧ r ≠ lb ∧ ∃ o : Obj, w.heap[r]? = some o ∧ o.isCells = false) : DskM w' F g s gb lb := by
  obtain ⟨A, c, gf, lf, h⟩ := h
  have hk : Keeps (fun k => row = some k) w w' := (Keeps.refl (fun k => row = some k) w).grown hg (fun k _ e => e)
  have hcell : ∀ k cs t fr, w.heap[k]? = some (.cells cs t fr) → ¬ row = some k := fun k cs t fr hc e => by
    obtain ⟨_, _, o, ho, hn⟩ := hr k e
    rw [hc] at ho
    injection ho with ho
    rw [← ho] at hn
    cases hn
  refine ⟨A, c, gf, lf, ⟨h.row.keeps hk (hcell _ _ _ _ h.row), h.good.keeps hk (fun e => (hr _ e).1 rfl), h.last.keeps hk (fun e => (hr _ e).2.1 rfl), hk.owns h.own (fun k hv e => ?_), h.ne, h.fg, h.fgb, h.flb, h.fown, h.gv, h.lv, h.ok⟩⟩
  obtain ⟨cur, hc, _⟩ := own_block h.own k hv
  exact hcell _ _ _ _ hc e
theorem DskM.tight {w : World} {F : Nat → Prop} {g gb lb : Nat} {s : Dk.St} (h : DskM w F g s gb lb) : DskM w (fun k => F k ∧ (k = gb ∨ k = lb ∨ w.heap.size ≤ k ∨ ∃ cs t fr, w.heap[k]? = some (.cells cs t fr))) g s gb lb := by
  obtain ⟨A, c, gf, lf, h⟩ := h
  refine ⟨A, c, gf, lf, ⟨h.row, h.good, h.last, h.own, h.ne, ⟨h.fg, .inr (.inr (.inr ⟨_, _, _, h.row⟩))⟩, ⟨h.fgb, .inl rfl⟩, ⟨h.flb, .inr (.inl rfl)⟩, fun k hv => ⟨h.fown k hv, ?_⟩, h.gv, h.lv, h.ok⟩⟩
  obtain ⟨cur, hc, _⟩ := own_block h.own k hv
  exact .inr (.inr (.inr ⟨_, _, _, hc⟩))
theorem results_cell_one {P : Program} {fn : Func} {p : Tmp} {ty : TypeId} (h : fn.results = #[.cell p ty]) (tmps : Array Value) (w : World) (a : Addr) (v : Value) (d : TypeDesc)
    (hp : tmps.getD p undef = .pointer (some a)) (hc : w.cell? a = some v) (hu : P.underlying ty = some d) (hd : d.isRow = false) : (results fn tmps).run P w = .ok v w := by
  have hp' : tmps[p]?.getD undef = .pointer (some a) := by simpa using hp
  simp [results, h, hp', asAddr, run_loadVar_one w a ty d v hc hu hd]
theorem zero_a256 (w : World) : (zeroValue 77).run Try.prog w = .ok (.agg (List.replicate 256 (Value.int .u8 0)).toArray) w := by kernel_rfl
theorem slice_a256 (V : World) (B : Nat) : (Instr.sliceAt 77 (.pointer (some ⟨B, 0, none⟩)) none none none).run Try.prog V = .ok (.slice (some ⟨B, 0, none⟩) 256 256) V := by
  have hz : Addr.add ⟨B, 0, none⟩ 0 = ⟨B, 0, none⟩ := rfl
  have he : Try.prog.arrayLen 77 = 256 := by kernel_rfl
  have hu : Try.prog.underlying 77 = some (.array (Try.prog.arrayLen 77) (Try.prog.elem 77)) := by kernel_rfl
  have hs : (sizeOf (Try.prog.elem 77)).run Try.prog V = .ok 1 V := by kernel_rfl
  rw [run_sliceAt_array_all (P := Try.prog) V 77 ⟨B, 0, none⟩ hu, hs, he]
  simp [Result.andThen, slicedAt, hz]
theorem blk_front (b : Wl.Bs) (j : Nat) : (List.replicate 256 (Value.int .u8 0)).toArray.toList.take 0 ++ (bvs ((b.drop (256 * j)).take 256) ++ (List.replicate 256 (Value.int .u8 0)).toArray.toList.drop (0 + (bvs ((b.drop (256 * j)).take 256)).length)) = bvs (Wl.blk b j) := by
  unfold Wl.blk Wl.pad
  have e : bvs (List.replicate (256 - ((b.drop (256 * j)).take 256).length) (0 : UInt8)) = List.replicate (256 - ((b.drop (256 * j)).take 256).length) (Value.int .u8 0) := by unfold bvs; rw [List.map_replicate]; rfl
  rw [← bvs_append, e, List.take_zero, List.nil_append, Nat.zero_add, bvs_length]
  congr 1
  rw [List.drop_replicate]
theorem pc_src {w : World} {ad : Addr} {b : List UInt8} (h : Src w (some ad) (bvs b)) (j : Nat) : ∀ q v, (bvs ((b.drop (256 * j)).take 256))[q]? = some v → w.cell? ((ad.add (256 * j)).add q) = some v := by
  intro q v hv
  rw [Addr.add_add]
  refine h.at_ ?_
  rw [bvs_get] at hv ⊢
  rw [List.getElem?_take] at hv
  split at hv
  · rw [List.getElem?_drop] at hv; exact hv
  · cases hv
theorem pc_len (b : List UInt8) (j : Nat) : (bvs ((b.drop (256 * j)).take 256)).length = plen b.length j := by
  rw [bvs_length, List.length_take, List.length_drop]; rfl
theorem kp_drew (S : Nat → Prop) (W : World) (nd : Nat) : Keeps S W (W.drewN nd) := (Keeps.refl S W).drewN nd
set_option maxRecDepth 100000 in
set_option maxHeartbeats 8000000 in
theorem wwrite_any (w : World) (FD : Nat → Prop) (p g k area first : Nat) (s : Dk.St) (cs : List Value) (A : Option Addr) (c : Nat) (b : List UInt8) (hR : Row w p 62 (.pointer (some ⟨g, 0, none⟩) :: .int .i64 (k : Int) :: cs)) (hD : DskAt w FD g s) (hp : ¬ FD p) (hclo : ∀ k, w.heap.size ≤ k → FD k)
    (hs : Src w A (bvs b)) (hA : ∀ a, A = some a → ¬ FD a.block) (hk : k ≤ 32767) (ha : area < 2) (hf : first ≤ 32767) (hb : b.length ≤ 8388608) (hbc : b.length ≤ c) (hc : c ≤ 9223372036854775807) (hn : s.loose.length + Wl.nch b ≤ 1000) :
    Calls Try.prog 33 #[.pointer (some ⟨p, 0, none⟩), .int .i64 (area : Int), .int .i64 (first : Int), .slice A b.length c] w fun e w' => e = .returned (.int .i64 (Wl.wst s (2 + area * k + first) b (Wl.nch b)).1) ∧ DskAt w' FD g (Wl.wst s (2 + area * k + first) b (Wl.nch b)).2 ∧ Keeps FD w w' := by
  obtain ⟨gb, lb, hD⟩ := hD
  have hD : DskM w FD g s gb lb := hD
  obtain ⟨i0, hi0⟩ : ∃ i, 2 + area * k + first = i := ⟨_, rfl⟩
  obtain ⟨m, hm⟩ : ∃ m, b.length = m := ⟨_, rfl⟩
  obtain ⟨b0, hb0⟩ : ∃ b, w.heap.size = b := ⟨_, rfl⟩
  obtain ⟨W1, hW1⟩ : ∃ V, w.alloc (.cells #[.pointer (some ⟨p, 0, none⟩)] 29) = V := ⟨_, rfl⟩
  have k1 : Keeps (fun _ => False) w W1 := by rw [← hW1]; exact (Keeps.refl _ _).alloc _
  have z1 : W1.heap.size = b0 + 1 := by rw [← hW1, World.size_alloc, hb0]
  have r1 : Row W1 b0 29 [.pointer (some ⟨p, 0, none⟩)] := by rw [← hW1, ← hb0]; exact heap_alloc_new w _
  obtain ⟨W2, hW2⟩ : ∃ V, W1.alloc (.cells #[.int .i64 (area : Int)] 3) = V := ⟨_, rfl⟩
  have k2 : Keeps (fun _ => False) W1 W2 := by rw [← hW2]; exact (Keeps.refl _ _).alloc _
  have z2 : W2.heap.size = b0 + 2 := by rw [← hW2, World.size_alloc, z1]
  have r2 : Row W2 (b0 + 1) 3 [.int .i64 (area : Int)] := by rw [← hW2, ← z1]; exact heap_alloc_new W1 _
  obtain ⟨W3, hW3⟩ : ∃ V, W2.alloc (.cells #[.int .i64 (first : Int)] 3) = V := ⟨_, rfl⟩
  have k3 : Keeps (fun _ => False) W2 W3 := by rw [← hW3]; exact (Keeps.refl _ _).alloc _
  have z3 : W3.heap.size = b0 + 3 := by rw [← hW3, World.size_alloc, z2]
  have r3 : Row W3 (b0 + 2) 3 [.int .i64 (first : Int)] := by rw [← hW3, ← z2]; exact heap_alloc_new W2 _
  obtain ⟨W4, hW4⟩ : ∃ V, W3.alloc (.cells #[.int .i64 0] 26) = V := ⟨_, rfl⟩
  have k4 : Keeps (fun _ => False) W3 W4 := by rw [← hW4]; exact (Keeps.refl _ _).alloc _
  have z4 : W4.heap.size = b0 + 4 := by rw [← hW4, World.size_alloc, z3]
  have r4 : Row W4 (b0 + 3) 26 [.int .i64 0] := by rw [← hW4, ← z3]; exact heap_alloc_new W3 _
  obtain ⟨W5, hW5⟩ : ∃ V, W4.alloc (.cells #[.slice A m c] 33) = V := ⟨_, rfl⟩
  have k5 : Keeps (fun _ => False) W4 W5 := by rw [← hW5]; exact (Keeps.refl _ _).alloc _
  have z5 : W5.heap.size = b0 + 5 := by rw [← hW5, World.size_alloc, z4]
  have r5 : Row W5 (b0 + 4) 33 [.slice A m c] := by rw [← hW5, ← z4]; exact heap_alloc_new W4 _
  obtain ⟨W6, hW6⟩ : ∃ V, W5.alloc (.cells #[.int .i64 256] 3) = V := ⟨_, rfl⟩
  have k6 : Keeps (fun _ => False) W5 W6 := by rw [← hW6]; exact (Keeps.refl _ _).alloc _
  have z6 : W6.heap.size = b0 + 6 := by rw [← hW6, World.size_alloc, z5]
  have r6 : Row W6 (b0 + 5) 3 [.int .i64 256] := by rw [← hW6, ← z5]; exact heap_alloc_new W5 _
  have k06 : Keeps (fun _ => False) w W6 := ((((k1.trans k2).trans k3).trans k4).trans k5).trans k6
  have hcu := chunk_any A m c W4
  rw [hW5, hW6, z4, show b0 + 4 + 1 = b0 + 5 from rfl] at hcu
  obtain ⟨FDx, hFDx⟩ : ∃ F, cutW FD b0 (b0 + 6) = F := ⟨_, rfl⟩
  have hx : ∀ k, FDx k ↔ FD k ∧ (k < b0 ∨ b0 + 6 ≤ k) := fun k => by rw [← hFDx]; rfl
  have hclox : ∀ k, b0 + 6 ≤ k → FDx k := fun k hk => (hx k).2 ⟨hclo k (by omega), .inr hk⟩
  have hd6 : DskM W6 FDx g s gb lb := (hD.mono (fun k hk hf => (hx k).2 ⟨hf, .inl (by omega)⟩)).later k06
  have hml := hD.maps_lt
  obtain ⟨N, hN⟩ : ∃ N, (m + 255) / 256 = N := ⟨_, rfl⟩
  have hnN : Wl.nch b = N := by unfold Wl.nch; rw [hm, hN]
  have hseq : SeqStopsK Fence.wide (3 - 1) Try.prog 70 #[.pointer (some ⟨b0 + 4, 0, none⟩), .pointer (some ⟨b0 + 5, 0, none⟩)] (pcEnc A m) (fun W W' => Keeps (fun k => FDx k ∨ k = b0 + 2) W W') (fun ys => ys = uptoc m N) (fun pre => ∃ k, 256 * k < m ∧ pre = uptoc m (k + 1)) N W6 := by
    intro l J Jx W hW hJ _ hY h0
    have hWk : Keeps (fun _ => False) W6 W := Keeps.of_below hW
    have hns : ∀ j, j < 6 → j ≠ 2 → ¬ (FDx (b0 + j) ∨ b0 + j = b0 + 2) := fun j hj h2 hh => by
      rcases hh with hh | hh
      · have := ((hx _).1 hh).2; omega
      · omega
    rw [← hN] at hY ⊢
    exact chunk1_in (3 - 1) l (b0 + 4) (b0 + 5) A m c W.heap.size (fun W W' => Keeps (fun k => FDx k ∨ k = b0 + 2) W W') (fun W => Keeps.refl _ _) (fun h k => h.trans k) (fun W nd => kp_drew _ W nd) J Jx hJ hY W
      (fun V hV => ⟨((r5.keeps k6 id).keeps (hWk.mono (fun _ _ h => h.elim) |>.trans hV) (hns 4 (by omega) (by omega))).cell 0, (r6.keeps (hWk.mono (fun _ _ h => h.elim) |>.trans hV) (hns 5 (by omega) (by omega))).cell 0⟩)
      (by omega) (by omega) hc (fun h0 => by obtain ⟨a, ha⟩ := hs.addr (j := 0) (by rw [bvs_length, hm]; exact h0); exact ⟨a, ha⟩) h0
  have hAlt : ∀ a, A = some a → 0 < m → a.block < b0 := fun a ha h0 => by
    obtain ⟨a', ha', hc'⟩ := hs 0 ((bvs b)[0]'(by rw [bvs_length, hm]; exact h0)) (by rw [List.getElem?_eq_getElem])
    rw [ha] at ha'
    injection ha' with ha'
    subst ha'
    have := World.block_lt_of_cell? w _ hc'
    have hb' : (a.add 0).block = a.block := by unfold Addr.add; split <;> rfl
    rw [hb'] at this
    omega
  have hplt := hR.lt
  have hne26 : ¬ FDx p := fun h => hp ((hx p).1 h).1
  have HSEQ := Lib.hid hseq
  have HCU := Lib.hid hcu
  have HX := Lib.hid hx
  have HCLO := Lib.hid hclox
  have HD6 := Lib.hid hd6
  have HR := Lib.hid (hR.keeps k06 id)
  have R1 := Lib.hid (((((r1.keeps k2 id).keeps k3 id).keeps k4 id).keeps k5 id).keeps k6 id)
  have R2 := Lib.hid ((((r2.keeps k3 id).keeps k4 id).keeps k5 id).keeps k6 id)
  have R3 := Lib.hid (((r3.keeps k4 id).keeps k5 id).keeps k6 id)
  have R4 := Lib.hid ((r4.keeps k5 id).keeps k6 id)
  have K06 := Lib.hid k06
  have Z6 := Lib.hid z6
  have HS := Lib.hid hs
  have HAA := Lib.hid (And.intro hA hAlt)
  have HML : Hid (gb < b0 ∧ lb < b0 ∧ p < b0 ∧ w.heap.size = b0) := Lib.hid ⟨by omega, by omega, by omega, hb0⟩
  have HNF := Lib.hid (And.intro hp hne26)
  have HI0 := Lib.hid (And.intro hi0 (And.intro hm (And.intro hN hnN)))
  have HNL := Lib.hid (show s.loose.length + N ≤ 1000 by rw [← hnN]; exact hn)
  have HBM : Hid (m ≤ 8388608) := Lib.hid (by omega)
  rw [hi0, hnN, hm]
  clear hseq hcu hx hclox hd6 hR r1 r2 r3 r4 r5 r6 k06 z4 z5 z6 hs hA hAlt hml hp hne26 hi0 hm hnN hD hclo k1 k2 k3 k4 k5 k6 hFDx hn hplt hbc hb
  refine callsIn_wide.1 (callsIn_of_wp_marks (n := 3) Try.func33 rfl trivial ((wpIn_wide (n := 3)).2 ?_) rfl)
  simp only [Try.ntmps33, List.size_toArray, List.length_cons, List.length_nil, Nat.reduceAdd, Nat.reduceSub, Array.replicate_succ, Array.replicate_zero, List.push_toArray, List.append_toArray, List.nil_append, List.cons_append]
  go_wp2_with fail
  refine HCU.out.mono ?_
  rintro e wx ⟨rfl, hx⟩
  obtain rfl : W6 = wx := hx.symm
  go_wp2_with fail
  have hsz6 := Z6.out
  refine (wpIn_wide (n := 3)).1 ?_
  refine wpIn_rangeFunc_ownH (n := 3) rfl (by omega) (gf := 70) (lb := #[.pointer (some ⟨b0 + 4, 0, none⟩), .pointer (some ⟨b0 + 5, 0, none⟩)]) rfl trivial (enters_of Try.func70 (by kernel_rfl) rfl) HSEQ.out (fun h k => Keeps.trans h k)
    (fun V l o o' hl h _ _ => ⟨rfl, rfl, rfl, by simp [World.putObj], fun k hk hs => World.putObj_heap_other (fun e => hs (.inl (HCLO.out k (by omega))))⟩) (Below.refl _ _) (fun _ => rfl)
    (fun pre V => (Wl.wstL s i0 b (pre.map (·.1))).2.1 = 0 ∧ Row V (b0 + 2) 3 [.int .i64 ((first + pre.length : Nat) : Int)] ∧ DskM V FDx g (Wl.wstL s i0 b (pre.map (·.1))).2.2 gb lb ∧ Keeps (fun k => FDx k ∨ k = b0 + 2) W6 V)
    (fun cd pre V => cd = .ret ∧ (Wl.wstL s i0 b (pre.map (·.1))).2.1 ≠ 0 ∧ Row V (b0 + 3) 26 [.int .i64 (Wl.wstL s i0 b (pre.map (·.1))).2.1] ∧ DskM V FDx g (Wl.wstL s i0 b (pre.map (·.1))).2.2 gb lb ∧ Keeps (fun k => FDx k ∨ k = b0 + 2 ∨ k = b0 + 3) W6 V)
    (fun s X Y row hs hg hr => ?hI)
    (fun cd s X Y row hs hg hr => ?hIx)
    ⟨rfl, R3.out, HD6.out, Keeps.refl _ _⟩
    (fun x a' V => a' = { tmps := #[.pointer (some ⟨p, 0, none⟩), .int .i64 (area : Int), .int .i64 (first : Int), .slice A m c, .pointer (some ⟨b0, 0, none⟩), .pointer (some ⟨b0 + 1, 0, none⟩), .pointer (some ⟨b0 + 2, 0, none⟩), undef, .pointer (some ⟨b0 + 3, 0, none⟩), (.slice (A.map (·.add (256 * x.1))) (plen m x.1) (plen m x.1)), undef, undef, .slice A m c, .func (.func 70) #[] #[.pointer (some ⟨b0 + 4, 0, none⟩), .pointer (some ⟨b0 + 5, 0, none⟩)], (.slice (A.map (·.add (256 * x.1))) (plen m x.1) (plen m x.1)), undef, undef, undef, undef, undef, undef, undef, undef, undef, undef, undef, undef, undef, undef, undef, undef, undef, undef], defers := [] })
    (fun x a' s X Y row hs hg hr => hs) ?assign ?body ?done ?stop
  case hI =>
    obtain ⟨h1, h2, h3, h4⟩ := hs
    refine ⟨h1, (hg.block (b0 + 2) (Array.getElem?_eq_some_iff.1 h2).1 (fun e => by have := (hr _ e.symm).1; omega)).trans h2, h3.grown hg (fun r hr' => ?_), h4.grown hg (fun k _ e => .inl (HCLO.out k (by have := (hr _ e).1; omega)))⟩
    obtain ⟨hr1, hr2⟩ := hr r hr'
    have := HML.out
    exact ⟨by omega, by omega, hr2⟩
  case hIx =>
    obtain ⟨h0, h1, h2, h3, h4⟩ := hs
    refine ⟨h0, h1, (hg.block (b0 + 3) (Array.getElem?_eq_some_iff.1 h2).1 (fun e => by have := (hr _ e.symm).1; omega)).trans h2, h3.grown hg (fun r hr' => ?_), h4.grown hg (fun k _ e => .inl (HCLO.out k (by have := (hr _ e).1; omega)))⟩
    obtain ⟨hr1, hr2⟩ := hr r hr'
    have := HML.out
    exact ⟨by omega, by omega, hr2⟩
  case assign =>
    intro l pre x V K hI hK
    have HK := Lib.hid hK
    have HI := Lib.hid hI
    clear hK hI
    simp only [pcEnc]
    gi_wp2
    exact HK.out _ _ (KeepsFrom.refl _ _) (Keeps.refl _ _) HI.out rfl
  case body =>
    rintro l pre x a' V hl _ ⟨h1, h2, h3, h4⟩ rfl hlen
    obtain ⟨st, hst⟩ : ∃ t, (Wl.wstL s i0 b (pre.map (·.1))).2.2 = t := ⟨_, rfl⟩
    obtain ⟨bi, hbi⟩ : ∃ t, first + pre.length = t := ⟨_, rfl⟩
    obtain ⟨qi, hqi⟩ : ∃ t, i0 + pre.length = t := ⟨_, rfl⟩
    obtain ⟨BK, hBK⟩ : ∃ t, Wl.blk b x.1 = t := ⟨_, rfl⟩
    obtain ⟨er, her⟩ : ∃ t, Dk.wrE st (qi : Int) 256 = t := ⟨_, rfl⟩
    obtain ⟨st', hst'⟩ : ∃ t, Dk.wr st (qi : Int) 256 BK = t := ⟨_, rfl⟩
    have hnext : (Wl.wstL s i0 b ((pre ++ [x]).map (·.1))).2 = (er, st') := by
      rw [List.map_append]
      show (Wl.wstL s i0 b (pre.map (·.1) ++ [x.1])).2 = _
      rw [Wl.wstL_snoc]
      unfold Wl.wstep
      rw [if_neg (fun h => h h1), Wl.wstL_len, List.length_map, hqi, hBK, hst]
      show (Dk.wrE st (qi : Int) 256, Dk.wr st (qi : Int) 256 BK) = _
      rw [her, hst']
    have hloose : st.loose.length ≤ 1000 := by
      rw [← hst]
      have := Wl.wstL_loose s i0 b (pre.map (·.1))
      rw [List.length_map] at this
      have := HNL.out
      omega
    rw [hst] at h3
    rw [hbi] at h2
    obtain ⟨FV, hFV⟩ : ∃ F : Nat → Prop, (fun k => FDx k ∧ (k = gb ∨ k = lb ∨ V.heap.size ≤ k ∨ ∃ cs t fr, V.heap[k]? = some (.cells cs t fr))) = F := ⟨_, rfl⟩
    have hv : ∀ k, FV k ↔ FDx k ∧ (k = gb ∨ k = lb ∨ V.heap.size ≤ k ∨ ∃ cs t fr, V.heap[k]? = some (.cells cs t fr)) := fun k => by rw [← hFV]
    have h3v : DskM V FV g st gb lb := by rw [← hFV]; exact h3.tight
    have HV := Lib.hid hv
    have hxm := x.2
    obtain ⟨ad, rfl⟩ : ∃ ad, A = some ad := by
      obtain ⟨a, ha⟩ := HS.out.addr (j := 0) (by rw [bvs_length, HI0.out.2.1]; omega)
      exact ⟨a, ha⟩
    have hadlt := HAA.out.2 ad rfl (by omega)
    have hadF := HAA.out.1 ad rfl
    have hsV : Src V (some ad) (bvs b) := (HS.out.keeps K06.out (fun _ _ _ => id)).keeps h4 (fun a ha _ e => by
      injection ha with ha
      subst ha
      rcases e with e | e
      · exact hadF ((HX.out _).1 e).1
      · omega)
    have hns : ∀ j, j < 6 → j ≠ 2 → ¬ (FDx (b0 + j) ∨ b0 + j = b0 + 2) := fun j hj h2 hh => by
      rcases hh with hh | hh
      · have := ((HX.out _).1 hh).2; omega
      · omega
    have r1 := R1.out.keeps h4 (hns 0 (by omega) (by omega))
    have r2 := R2.out.keeps h4 (hns 1 (by omega) (by omega))
    have r4 := R4.out.keeps h4 (hns 3 (by omega) (by omega))
    have hrp := HR.out.keeps h4 (fun e => by rcases e with e | e; exact HNF.out.2 e; (have := HML.out; omega))
    obtain ⟨ZZ, hZZ⟩ : ∃ Z, (List.replicate 256 (Value.int .u8 0)).toArray = Z := ⟨_, rfl⟩
    have hz : ∀ V : World, (zeroValue 77).run Try.prog V = .ok (.agg ZZ) V := fun V => by rw [← hZZ]; exact zero_a256 V
    have hzs : ZZ.size = 256 := by rw [← hZZ, List.size_toArray, List.length_replicate]
    obtain ⟨Y, hY⟩ : ∃ b, V.heap.size = b := ⟨_, rfl⟩
    obtain ⟨W7, hW7⟩ : ∃ W, V.alloc (.cells ZZ 77) = W := ⟨_, rfl⟩
    have k7 : Keeps (fun _ => False) V W7 := by rw [← hW7]; exact (Keeps.refl _ _).alloc _
    have r7 : W7.heap[Y]? = some (.cells ZZ 77 (0, 0)) := by rw [← hW7, ← hY]; exact heap_alloc_new V _
    obtain ⟨CS, hCS⟩ : ∃ L, bvs ((b.drop (256 * x.1)).take 256) = L := ⟨_, rfl⟩
    obtain ⟨pl, hpl⟩ : ∃ t, plen m x.1 = t := ⟨_, rfl⟩
    have hcl : CS.length = pl := by rw [← hCS, pc_len, HI0.out.2.1, hpl]
    have hpl2 : pl ≤ 256 := by rw [← hpl]; exact Nat.min_le_left _ _
    have hsrc : ∀ q v, CS[q]? = some v → W7.cell? ((ad.add (256 * x.1)).add q) = some v := fun q v hv => by rw [← hCS] at hv; exact pc_src (hsV.keeps k7 (fun _ _ _ => id)) x.1 q v hv
    have hfr := blk_front b x.1
    rw [hZZ, hCS, hBK] at hfr
    have h1c : ∀ v ∈ CS, v.oneCell' = true := by rw [← hCS]; exact bvs_one _
    obtain ⟨W8, hW8⟩ : ∃ W, W7.setRow Y (bvs BK).toArray = W := ⟨_, rfl⟩
    have k8 : Keeps (fun k => k = Y) W7 W8 := by rw [← hW8]; exact Keeps.setRow _ _
    have r8 : Row W8 Y 77 (bvs BK) := by rw [← hW8]; exact setRow_heap _ _ _ _ _ _ r7
    have hYb : b0 + 6 ≤ Y := by have := h4.size; have := Z6.out; omega
    have k78 : Keeps (fun _ => False) V W8 := k7.trans' k8 (fun i hi e => by omega)
    have hd8 : DskM W8 (fun k => FV k ∧ k ≠ Y) g st gb lb := (h3v.mono (fun k hk hf => ⟨hf, by omega⟩)).later k78
    simp only [hpl, Option.map_some]
    obtain ⟨ax, hax⟩ : ∃ t, ad.add (256 * x.1) = t := ⟨_, rfl⟩
    rw [hax] at hsrc ⊢
    have HSRC := Lib.hid hsrc
    have HFR := Lib.hid hfr
    have H1C := Lib.hid h1c
    have HCL := Lib.hid (And.intro hcl hpl2)
    have R7 := Lib.hid r7
    have HZS := Lib.hid hzs
    have HSA := Lib.hid (fun V => slice_a256 V Y)
    have hsa := fun V => slice_a256 V Y
    have HF8 := Lib.hid (And.intro hd8 r8)
    have K78 := Lib.hid k78
    have H4 := Lib.hid h4
    have H2 := Lib.hid h2
    have RB := Lib.hid (And.intro r1 (And.intro r2 (And.intro r4 hrp)))
    have HNX := Lib.hid (And.intro hnext (And.intro hbi (And.intro hqi (And.intro her (And.intro hst' hloose)))))
    have HYB := Lib.hid hYb
    have HBL : Hid (BK.length = 256) := Lib.hid (by rw [← hBK]; exact Wl.blk_length _ _)
    have HLEN := Lib.hid hlen
    have hcp := run_copy_row (P := Try.prog) W7 33 33 3 5 Y 0 256 256 ax pl pl ZZ 77 CS Try.underlying33 size_u8d r7 (by rw [hcl]; exact (Nat.min_eq_left hpl2).symm) hsrc (by rw [hzs, hcl]; omega) h1c
    rw [List.append_assoc, hfr, hW8, hcl] at hcp
    clear hsrc hfr h1c hcl hpl2 r7 hzs k7 k8 r8 hd8 k78 h4 h2 r1 r2 r4 hrp hnext hbi hqi her hst' hloose hst hBK hCS hpl hax hsV hns h3 h3v hv hFV hYb hZZ h1 hlen hadF hadlt hxm
    have HC0 : Hid (∀ V', Keeps FV W8 V' → V'.cell? ⟨b0, 0, none⟩ = some (.pointer (some ⟨p, 0, none⟩))) := Lib.hid (fun V' hV => (((RB.out.1.keeps K78.out id).keeps hV (fun e => by have := ((HX.out _).1 ((HV.out _).1 e).1).2; omega)).cell 0))
    have HC1 : Hid (∀ V', Keeps FV W8 V' → V'.cell? ⟨b0 + 1, 0, none⟩ = some (.int .i64 (area : Int))) := Lib.hid (fun V' hV => (((RB.out.2.1.keeps K78.out id).keeps hV (fun e => by have := ((HX.out _).1 ((HV.out _).1 e).1).2; omega)).cell 0))
    have HC2 : Hid (∀ V', Keeps FV W8 V' → V'.cell? ⟨b0 + 2, 0, none⟩ = some (.int .i64 (bi : Int))) := Lib.hid (fun V' hV => (((H2.out.keeps K78.out id).keeps hV (fun e => by have := ((HX.out _).1 ((HV.out _).1 e).1).2; omega)).cell 0))
    have HCP : Hid (∀ V', Keeps FV W8 V' → V'.cell? ⟨p, 0, none⟩ = some (.pointer (some ⟨g, 0, none⟩))) := Lib.hid (fun V' hV => (((RB.out.2.2.2.keeps K78.out id).keeps hV (fun e => HNF.out.2 ((HV.out _).1 e).1)).cell 0))
    have HAT : Hid (∀ V', Keeps FV W8 V' → Calls Try.prog 49 #[.pointer (some ⟨p, 0, none⟩), .int .i64 (area : Int), .int .i64 (bi : Int)] V' fun e w' => e = .returned (.int .i64 (qi : Int)) ∧ Keeps (fun _ => False) V' w') := Lib.hid (fun V' hV => by
      have h := wat_any V' p _ k area bi _ ((RB.out.2.2.2.keeps K78.out id).keeps hV (fun e => HNF.out.2 ((HV.out _).1 e).1)) hk ha (by have := HNX.out.2.1; have := HLEN.out; have := HI0.out.2.2.1; have := HBM.out; omega)
      rw [show 2 + area * k + bi = qi by have := HNX.out.2.1; have := HNX.out.2.2.1; have := HI0.out.1; omega] at h
      exact h.mono (fun e w' hh => ⟨hh.1, by rw [hh.2]; exact Keeps.refl _ _⟩))
    have HWR : Hid (∀ V', Keeps FV W8 V' → (DskM V' (fun k => FV k ∧ k ≠ Y) g st gb lb ∧ Row V' Y 77 (bvs BK)) → Calls Try.prog 37 #[.pointer (some ⟨g, 0, none⟩), .int .i64 (qi : Int), .slice (some ⟨Y, 0, none⟩) 256 256] V' fun e w' => e = .returned (.int .i64 er) ∧ Keeps FV W8 w' ∧ DskM w' FV g st' gb lb) := Lib.hid (fun V' hV hf => by
      refine (write_thereM V' FV g gb lb st Y 256 hf.1 (fun k hk => (HV.out k).2 ⟨HCLO.out k (by have := hV.size; have := K78.out.size; have := H4.out.size; have := Z6.out; omega), .inr (.inr (.inl (by have := hV.size; have := K78.out.size; omega)))⟩) _ BK hf.2 (qi : Int) 256 HBL.out HNX.out.2.2.2.2.2).mono ?_
      rintro e w' ⟨e1, e2, e3⟩
      rw [HNX.out.2.2.2.1] at e1
      rw [HNX.out.2.2.2.2.1] at e2
      exact ⟨e1, hV.trans e3, e2⟩)
    clear hW8
    gi_wp2
    refine wpIn_region_stores ?hno ?hdf 11 [9] [0, 1, 2, 3, 4, 5, 6, 7, 8, 9, 10] (fun V => Keeps FV W8 V) (fun V => DskM V (fun k => FV k ∧ k ≠ Y) g st gb lb ∧ Row V Y 77 (bvs BK)) (by kernel_rfl) (by kernel_rfl) (fun _ _ h k => h.trans (k.mono (fun _ _ h => h.elim))) (fun _ _ h k => ⟨h.1.later k, h.2.keeps k id⟩) ((Keeps.refl _ _).drew) (⟨HF8.out.1.later ((Keeps.refl _ _).drew), HF8.out.2⟩) ?_
    case hno => intro hh; obtain ⟨_, _, hh⟩ := hh; exact hh
    case hdf => rfl
    refine T_cell (get_op rfl) (by rfl) (by rfl) 29 (.tmp 4) (by rfl) ⟨b0, 0, none⟩ (by rfl) (.pointer (some ⟨p, 0, none⟩)) _ (fun V hV => HC0.out V hV) Try.underlying29 rfl ?_
    simp only [Act.put, List.setIfInBounds_toArray, List.set_cons_zero, List.set_cons_succ]
    refine T_value (get_op rfl) (by rfl) (by rfl) (.pointer (some ⟨p, 0, none⟩)) (fun _ _ => by go_simp) ?_
    simp only [Act.put, List.setIfInBounds_toArray, List.set_cons_zero, List.set_cons_succ]
    refine T_value (get_op rfl) (by rfl) (by rfl) (.pointer (some ⟨p, 0, none⟩)) (fun _ _ => by go_simp) ?_
    simp only [Act.put, List.setIfInBounds_toArray, List.set_cons_zero, List.set_cons_succ]
    refine T_cell (get_op rfl) (by rfl) (by rfl) 25 (.tmp 20) (by rfl) ⟨p, 0, none⟩ (by rfl) (.pointer (some ⟨g, 0, none⟩)) _ (fun V hV => HCP.out V hV) Try.underlying25 rfl ?_
    simp only [Act.put, List.setIfInBounds_toArray, List.set_cons_zero, List.set_cons_succ]
    refine T_cell (get_op rfl) (by rfl) (by rfl) 29 (.tmp 4) (by rfl) ⟨b0, 0, none⟩ (by rfl) (.pointer (some ⟨p, 0, none⟩)) _ (fun V hV => HC0.out V hV) Try.underlying29 rfl ?_
    simp only [Act.put, List.setIfInBounds_toArray, List.set_cons_zero, List.set_cons_succ]
    refine T_cell (get_op rfl) (by rfl) (by rfl) 3 (.tmp 5) (by rfl) ⟨b0 + 1, 0, none⟩ (by rfl) (.int .i64 (area : Int)) _ (fun V hV => HC1.out V hV) Try.underlying3 rfl ?_
    simp only [Act.put, List.setIfInBounds_toArray, List.set_cons_zero, List.set_cons_succ]
    refine T_cell (get_op rfl) (by rfl) (by rfl) 3 (.tmp 6) (by rfl) ⟨b0 + 2, 0, none⟩ (by rfl) (.int .i64 (bi : Int)) _ (fun V hV => HC2.out V hV) Try.underlying3 rfl ?_
    simp only [Act.put, List.setIfInBounds_toArray, List.set_cons_zero, List.set_cons_succ]
    refine T_call (get_op rfl) (by rfl) (by rfl) _ _ (.int .i64 (qi : Int)) (fun _ => by go_simp) (fun V hV => HAT.out V hV) ?_
    simp only [Act.put, List.setIfInBounds_toArray, List.set_cons_zero, List.set_cons_succ]
    refine T_value (get_op rfl) (by rfl) (by rfl) (.slice (some ⟨Y, 0, none⟩) 256 256) (fun _ _ => by have hsa := HSA.out; go_simp) ?_
    simp only [Act.put, List.setIfInBounds_toArray, List.set_cons_zero, List.set_cons_succ]
    refine T_enter (get_op rfl) (by rfl) (by rfl) _ _ (.int .i64 er) (fun _ => by go_simp) (fun V => DskM V FV g st' gb lb) (fun _ _ h k => h.later k) (fun V hb hf => HWR.out V hb hf) ?_
    simp only [Act.put, List.setIfInBounds_toArray, List.set_cons_zero, List.set_cons_succ]
    refine T_value (get_op rfl) (by rfl) (by rfl) (.int .i64 er) (fun _ _ => by go_simp) ?_
    simp only [Act.put, List.setIfInBounds_toArray, List.set_cons_zero, List.set_cons_succ]
    refine T_nil ?_
    intro V9 k9 f9
    simp only [List.drop_succ_cons, List.drop_zero]
    have hkV : Keeps FV V V9 := (K78.out.mono (fun _ _ h => h.elim)).trans k9
    have hkf : KeepsFrom W6.heap.size V V9 := ⟨hkV.size, fun k o hB hk ho => (hkV.block k (Array.getElem?_eq_some_iff.1 hk).1 (fun e => by
      have hml := HML.out
      have hz := Z6.out
      rcases ((HV.out k).1 e).2 with h | h | h | ⟨cs', t, fr, h⟩
      · omega
      · omega
      · have := (Array.getElem?_eq_some_iff.1 hk).1; omega
      · rw [hk] at h; injection h with h; rw [h] at ho; cases ho)).trans hk⟩
    have hd9 : DskM V9 FDx g st' gb lb := f9.mono (fun k _ hf => ((HV.out k).1 hf).1)
    have hk9 : Keeps (fun k => FDx k ∨ k = b0 + 2) W6 V9 := H4.out.trans (hkV.mono (fun k _ e => .inl ((HV.out k).1 e).1))
    have hn9 : ∀ j, j < 6 → ¬ FV (b0 + j) := fun j hj e => by have := ((HX.out _).1 ((HV.out _).1 e).1).2; omega
    have r29 := (H2.out.keeps K78.out id).keeps k9 (hn9 2 (by omega))
    have r49 := (RB.out.2.2.1.keeps K78.out id).keeps k9 (hn9 3 (by omega))
    have c29 : V9.cell? ⟨b0 + 2, 0, none⟩ = some (.int .i64 (bi : Int)) := r29.cell 0
    have f29 := r29.frozen 0
    have c49 : V9.cell? ⟨b0 + 3, 0, none⟩ = some (.int .i64 0) := r49.cell 0
    have f49 := r49.frozen 0
    have R29 := Lib.hid r29
    have R49 := Lib.hid r49
    have KV : Hid (Keeps (fun k => FDx k ∨ k = b0 + 2) V V9) := Lib.hid (hkV.mono (fun k _ e => .inl ((HV.out k).1 e).1))
    have KK := Lib.hid (And.intro hkf (And.intro hd9 hk9))
    have hbl : bi ≤ 100000 := by have := HNX.out.2.1; have := HLEN.out; have := HI0.out.2.2.1; have := HBM.out; omega
    clear k9 f9 hkV hkf hd9 hk9 hn9 r29 r49 HC0 HC1 HC2 HCP HAT HWR hcp HSRC HFR H1C HCL R7
    have HFIN0 : Hid (er = 0 → KeepsFrom W6.heap.size V (V9.setCell ⟨b0 + 2, 0, none⟩ (.int .i64 ((bi : Int) + 1))) ∧ Keeps (fun k => FDx k ∨ k = b0 + 2) V (V9.setCell ⟨b0 + 2, 0, none⟩ (.int .i64 ((bi : Int) + 1))) ∧ (Wl.wstL s i0 b ((pre ++ [x]).map (·.1))).2.1 = 0 ∧ Row (V9.setCell ⟨b0 + 2, 0, none⟩ (.int .i64 ((bi : Int) + 1))) (b0 + 2) 3 [.int .i64 ((first + (pre ++ [x]).length : Nat) : Int)] ∧ DskM (V9.setCell ⟨b0 + 2, 0, none⟩ (.int .i64 ((bi : Int) + 1))) FDx g (Wl.wstL s i0 b ((pre ++ [x]).map (·.1))).2.2 gb lb ∧ Keeps (fun k => FDx k ∨ k = b0 + 2) W6 (V9.setCell ⟨b0 + 2, 0, none⟩ (.int .i64 ((bi : Int) + 1)))) := Lib.hid (fun he => by
      have ks : Keeps (fun k => k = b0 + 2) V9 (V9.setCell ⟨b0 + 2, 0, none⟩ (.int .i64 ((bi : Int) + 1))) := (Keeps.refl (fun k => k = b0 + 2) V9).setCell (p := ⟨b0 + 2, 0, none⟩) (fun _ => rfl) _
      have hz := Z6.out
      refine ⟨⟨Nat.le_trans KK.out.1.size ks.size, fun k o hB hk ho => (ks.block k (Nat.lt_of_lt_of_le (Array.getElem?_eq_some_iff.1 hk).1 KK.out.1.size) (by omega)).trans (KK.out.1.2 k o hB hk ho)⟩, ?_, ?_, ?_, ?_, ?_⟩
      · exact KV.out.trans (ks.mono (fun k _ e => .inr e))
      · rw [HNX.out.1]; exact he
      · have h := R29.out.set 0 (.int .i64 ((bi : Int) + 1))
        rw [show ((first + (pre ++ [x]).length : Nat) : Int) = (bi : Int) + 1 by rw [List.length_append, List.length_cons, List.length_nil]; have := HNX.out.2.1; omega]
        exact h
      · rw [HNX.out.1]
        exact KK.out.2.1.keeps ks (fun k _ hf e => by have := ((HX.out _).1 hf).2; omega)
      · exact KK.out.2.2.trans (ks.mono (fun k _ e => .inr e)))
    have HFIN1 : Hid (er ≠ 0 → KeepsFrom W6.heap.size V (V9.setCell ⟨b0 + 3, 0, none⟩ (.int .i64 er)) ∧ (Wl.wstL s i0 b ((pre ++ [x]).map (·.1))).2.1 ≠ 0 ∧ Row (V9.setCell ⟨b0 + 3, 0, none⟩ (.int .i64 er)) (b0 + 3) 26 [.int .i64 (Wl.wstL s i0 b ((pre ++ [x]).map (·.1))).2.1] ∧ DskM (V9.setCell ⟨b0 + 3, 0, none⟩ (.int .i64 er)) FDx g (Wl.wstL s i0 b ((pre ++ [x]).map (·.1))).2.2 gb lb ∧ Keeps (fun k => FDx k ∨ k = b0 + 2 ∨ k = b0 + 3) W6 (V9.setCell ⟨b0 + 3, 0, none⟩ (.int .i64 er))) := Lib.hid (fun he => by
      have ks : Keeps (fun k => k = b0 + 3) V9 (V9.setCell ⟨b0 + 3, 0, none⟩ (.int .i64 er)) := (Keeps.refl (fun k => k = b0 + 3) V9).setCell (p := ⟨b0 + 3, 0, none⟩) (fun _ => rfl) _
      have hz := Z6.out
      refine ⟨⟨Nat.le_trans KK.out.1.size ks.size, fun k o hB hk ho => (ks.block k (Nat.lt_of_lt_of_le (Array.getElem?_eq_some_iff.1 hk).1 KK.out.1.size) (by omega)).trans (KK.out.1.2 k o hB hk ho)⟩, ?_, ?_, ?_, ?_⟩
      · rw [HNX.out.1]; exact he
      · rw [HNX.out.1]; exact R49.out.set 0 (.int .i64 er)
      · rw [HNX.out.1]
        exact KK.out.2.1.keeps ks (fun k _ hf e => by have := ((HX.out _).1 hf).2; omega)
      · exact (KK.out.2.2.mono (fun k _ e => by rcases e with e | e; exact .inl e; exact .inr (.inl e))).trans (ks.mono (fun k _ e => .inr (.inr e))))
    have ebi : IntKind.i64.wrap ((bi : Int) + 1) = (bi : Int) + 1 := IntWalk.i64_in _ (by omega)
    by_cases he : er = 0
    · have hf := HFIN0.out he
      have HF := Lib.hid hf
      subst he
      clear HFIN0 HFIN1 hf KK KV R29 R49
      go_wp2_with fail
      gi_wp2
      exact HF.out
    · have heb : (er != 0) = true := by simpa using he
      have HF := Lib.hid (HFIN1.out he)
      clear HFIN0 HFIN1 KK KV R29 R49
      go_wp2_with fail
      gi_wp2
      exact ⟨HF.out.1, rfl, HF.out.2⟩
  case done =>
    rintro D xs V hD rfl ⟨h1, h2, h3, h4⟩ hK
    have hmap : (uptoc m N).map (·.1) = List.range N := uptoc_map m N (by have := HI0.out.2.2.1; omega)
    rw [hmap, Wl.wstL_range] at h1 h3
    have hr4 := R4.out.keeps h4 (fun hh => by
      rcases hh with hh | hh
      · have := ((HX.out _).1 hh).2; omega
      · omega)
    have c4 : V.cell? ⟨b0 + 3, 0, none⟩ = some (.int .i64 0) := hr4.cell 0
    have f4 := hr4.frozen 0
    have R4V := Lib.hid hr4
    have H3 := Lib.hid h3
    have H1 := Lib.hid h1
    have H4 := Lib.hid h4
    have HDD := Lib.hid hD
    have HDK := Lib.hid hK
    clear h1 h2 h3 h4 hr4 hK hmap hD
    gi_wp2
    go_wp2_with fail
    obtain ⟨V10, hV10⟩ : ∃ X, V.setCell ⟨b0 + 3, 0, none⟩ (.int .i64 0) = X := ⟨_, rfl⟩
    have ks : Keeps (fun k => k = b0 + 3) V V10 := by rw [← hV10]; exact (Keeps.refl (fun k => k = b0 + 3) V).setCell (p := ⟨b0 + 3, 0, none⟩) (fun _ => rfl) _
    have hr10 : Row V10 (b0 + 3) 26 [.int .i64 0] := by rw [← hV10]; exact R4V.out.set 0 (.int .i64 0)
    have hd10 := H3.out.keeps ks (fun k _ hf e => by have := ((HX.out _).1 hf).2; omega)
    have hD10 : V10.heap[D]? = some (.deferred (some [])) := (ks.block D (Array.getElem?_eq_some_iff.1 HDK.out).1 (by have := HDD.out; have := Z6.out; omega)).trans HDK.out
    have hk10 : Keeps FD w V10 := (K06.out.mono (fun _ _ h => h.elim)).trans' (T := fun k => FDx k ∨ k = b0 + 2 ∨ k = b0 + 3) ((H4.out.mono (fun k _ e => by rcases e with e | e; exact .inl e; exact .inr (.inl e))).trans (ks.mono (fun k _ e => .inr (.inr e)))) (fun i hi e => by
      have := HML.out
      rcases e with e | e | e
      · exact ((HX.out _).1 e).1
      · omega
      · omega)
    rw [hV10]
    refine ⟨by simp, .inl ⟨_, _, rfl, run_takeDeferred hD10, ?_⟩⟩
    have hk2 : Keeps (fun k => k = D) V10 (V10.putObj D (.deferred none)) := ⟨rfl, rfl, rfl, by simp [World.putObj], fun k hk hs => World.putObj_heap_other hs⟩
    have hDb : b0 + 6 ≤ D := by have := HDD.out; have := Z6.out; omega
    have hr11 := hr10.keeps hk2 (by omega)
    have hd11 := hd10.grown (grownBy_putObj' V10 D (.deferred none)) (fun r e => by injection e with e; subst e; have := HML.out; exact ⟨by omega, by omega, _, hD10, rfl⟩)
    have hk11 := hk10.trans' hk2 (fun i hi e => by have := HML.out; omega)
    refine ⟨_, results_cell_one rfl _ _ ⟨b0 + 3, 0, none⟩ (.int .i64 0) _ rfl (hr11.cell 0) Try.underlying26 rfl, ?_⟩
    exact ⟨by rw [H1.out], ⟨gb, lb, hd11.mono (fun k _ hf => ((HX.out _).1 hf).1)⟩, hk11⟩
  case stop =>
    rintro D cd pre V hD ⟨j, hj, rfl⟩ ⟨rfl, h1, h2, h3, h4⟩ hK
    have hjN : j + 1 ≤ N := by have := HI0.out.2.2.1; omega
    have hmap : (uptoc m (j + 1)).map (·.1) = List.range (j + 1) := uptoc_map m (j + 1) (by omega)
    rw [hmap, Wl.wstL_range] at h1 h2 h3
    have hst := Wl.wst_stop s i0 b (j + 1) h1 N hjN
    rw [← hst] at h1 h2 h3
    obtain ⟨er, her⟩ : ∃ e, (Wl.wst s i0 b N).1 = e := ⟨_, rfl⟩
    simp only [her] at h2
    have R4V := Lib.hid h2
    have H3 := Lib.hid h3
    have H4 := Lib.hid h4
    have HDD := Lib.hid hD
    have HDK := Lib.hid hK
    have HER := Lib.hid her
    clear h1 h2 h3 h4 hK hmap hD hst her
    gi_wp2
    obtain ⟨V10, hV10⟩ : ∃ X, V = X := ⟨_, rfl⟩
    have hr10 : Row V10 (b0 + 3) 26 [.int .i64 er] := by rw [← hV10]; exact R4V.out
    have hd10 : DskM V10 FDx g (Wl.wst s i0 b N).2 gb lb := by rw [← hV10]; exact H3.out
    have hD10 : V10.heap[D]? = some (.deferred (some [])) := by rw [← hV10]; exact HDK.out
    have hk10 : Keeps FD w V10 := (K06.out.mono (fun _ _ h => h.elim)).trans' (T := fun k => FDx k ∨ k = b0 + 2 ∨ k = b0 + 3) (by rw [← hV10]; exact H4.out) (fun i hi e => by
      have := HML.out
      rcases e with e | e | e
      · exact ((HX.out _).1 e).1
      · omega
      · omega)
    rw [hV10]
    refine ⟨by simp, .inl ⟨_, _, rfl, run_takeDeferred hD10, ?_⟩⟩
    have hk2 : Keeps (fun k => k = D) V10 (V10.putObj D (.deferred none)) := ⟨rfl, rfl, rfl, by simp [World.putObj], fun k hk hs => World.putObj_heap_other hs⟩
    have hDb : b0 + 6 ≤ D := by have := HDD.out; have := Z6.out; omega
    have hr11 := hr10.keeps hk2 (by omega)
    have hd11 := hd10.grown (grownBy_putObj' V10 D (.deferred none)) (fun r e => by injection e with e; subst e; have := HML.out; exact ⟨by omega, by omega, _, hD10, rfl⟩)
    have hk11 := hk10.trans' hk2 (fun i hi e => by have := HML.out; omega)
    refine ⟨_, results_cell_one rfl _ _ ⟨b0 + 3, 0, none⟩ (.int .i64 er) _ rfl (hr11.cell 0) Try.underlying26 rfl, ?_⟩
    exact ⟨by rw [HER.out], ⟨gb, lb, hd11.mono (fun k _ hf => ((HX.out _).1 hf).1)⟩, hk11⟩
end Go.Proofs.Ytnhegnncmjmafaa
namespace Go.Proofs.Ytnhegnncmjmafaa
open Go.RowKit Go.BigFrame
set_option linter.unusedVariables false

/-- What a step must do: called in Q j it answers an error; that is kept, and Q (j + 1) holds, or R of the error. -/
def StepOk (p : Nat) (Q : Nat → World → Prop) (R : Int → World → Prop) (j : Nat) (f : Value) : Prop :=
  ∃ id bd fr, f = .func (.func id) bd fr ∧ (∀ args w, (callFunc id args).run Try.prog w = .ok (.enter id args) w) ∧ ∀ w, Q j w → Calls Try.prog id (bd ++ fr) w fun e w' =>
    ∃ x e0, e = .returned (.int .i64 x) ∧ w'.cell? ⟨p, 7, none⟩ = some (.int .i64 e0) ∧ w'.frozen? ⟨p, 7, none⟩ = false ∧ (x = 0 → Q (j + 1) (w'.setCell ⟨p, 7, none⟩ (.int .i64 x))) ∧ (x ≠ 0 → R x (w'.setCell ⟨p, 7, none⟩ (.int .i64 x)))
set_option maxRecDepth 100000 in
set_option maxHeartbeats 4000000 in
theorem steps_any (p X n c : Nat) (fs : List Value) (hn : fs.length = n) (hn2 : n ≤ 100) (Q : Nat → World → Prop) (R : Int → World → Prop) (w : World) (h0 : Q 0 w) (hrow : ∀ j w, Q j w → Row w X 39 fs) (hq : ∀ j w, Q j w → w.cell? ⟨p, 7, none⟩ = some (.int .i64 0)) (hr : ∀ x w, R x w → w.cell? ⟨p, 7, none⟩ = some (.int .i64 x))
    (hst : ∀ j f, fs[j]? = some f → StepOk p Q R j f) :
    Calls Try.prog 31 #[.pointer (some ⟨p, 0, none⟩), .slice (some ⟨X, 0, none⟩) n c] w fun e w' => ∃ x, e = .returned (.int .i64 x) ∧ (x = 0 → Q n w') ∧ (x ≠ 0 → R x w') := by
  have HROW := Lib.hid hrow
  have HQ := Lib.hid hq
  have HR := Lib.hid hr
  have HST := Lib.hid hst
  have H0 := Lib.hid h0
  have HN := Lib.hid hn
  clear hrow hq hr hst h0 hn
  go_enter Try.func31, Try.ntmps31
  go_wp2_with fail
  go_loopw [6, 9] (fun _ iv ww => ∃ j : Nat, j ≤ n ∧ iv = .int .i64 (j : Int) ∧ Hid (Q j ww)) (fun _ iv _ => n - (intOf iv).toNat)
  case atStart => exact ⟨0, by omega, rfl, H0⟩
  case round =>
    obtain ⟨j, hj, rfl, HJ⟩ := hrel
    by_cases hlt : j < n
    · have hjl : (j : Int) < (n : Int) := by omega
      obtain ⟨f, hf⟩ : ∃ f, fs[j]? = some f := ⟨_, List.getElem?_eq_getElem (by rw [HN.out]; omega)⟩
      have cX : wr.cell? ⟨X, j, none⟩ = some f := by rw [(HROW.out j wr HJ.out).cell, hf]
      obtain ⟨id, bd, fr, rfl, hcf, hcall⟩ := HST.out j f hf
      have HC := Lib.hid (hcall wr HJ.out)
      clear hf hcall
      go_wp2_with fail
      refine HC.out.mono ?_
      rintro e w2 ⟨x, e0, rfl, hc7, hf7, hx0, hx1⟩
      by_cases hx : x = 0
      · have hq2 := hx0 hx
        subst hx
        have c7 := HQ.out _ _ hq2
        have HQ2 := Lib.hid hq2
        clear hx0 hx1 hq2 HC
        go_wp2_with fail
        go_roundw
        case rel => exact ⟨j + 1, by omega, by go_num, HQ2⟩
        case measure => simp [intOf]; omega
      · have hr2 := hx1 hx
        have hxb : (x != 0) = true := by simpa using hx
        have c7 := HR.out _ _ hr2
        have HR2 := Lib.hid hr2
        have HXX := Lib.hid hx
        clear hx0 hx1 hr2 HC hx
        go_wp2_with fail
        go_ret
        exact ⟨x, rfl, fun h => absurd h HXX.out, fun _ => HR2.out⟩
    · have hjl : ¬ (j : Int) < (n : Int) := by omega
      obtain rfl : j = n := by omega
      have c7 := HQ.out _ _ HJ.out
      go_wp2_with fail
      go_ret
      exact ⟨0, rfl, fun _ => HJ.out, fun h => absurd rfl h⟩
end Go.Proofs.Ytnhegnncmjmafaa
namespace Go.Proofs.Ytnhegnncmjmafaa
open Go.RowKit Go.BigFrame
set_option linter.unusedVariables false

theorem ap1_any (w : World) (FD : Nat → Prop) (p g k area first n c : Nat) (s : Dk.St) (tv : Value) (cs : List Value) (ad : Addr) (b : List UInt8) (Bl Bf Bh : Nat) (hR : Row w p 62 (.pointer (some ⟨g, 0, none⟩) :: .int .i64 (k : Int) :: tv :: .int .i64 (area : Int) :: cs)) (hD : DskAt w FD g s) (hp : ¬ FD p) (hclo : ∀ k, w.heap.size ≤ k → FD k)
    (h1 : Row w Bl 29 [.pointer (some ⟨p, 0, none⟩)]) (h2 : Row w Bf 3 [.int .i64 (first : Int)]) (h3 : Row w Bh 33 [.slice (some ad) n c]) (hb1 : ¬ FD Bl) (hb2 : ¬ FD Bf) (hb3 : ¬ FD Bh)
    (hs : Src w (some ad) (bvs b)) (hn : b.length = n) (hA : ¬ FD ad.block) (hk : k ≤ 32767) (ha : area < 2) (hf : first ≤ 32767) (hb : n ≤ 8388608) (hlt : 256 * first < n) (hbc : n ≤ c) (hc : c ≤ 9223372036854775807) (hl : s.loose.length + Wl.nch (b.drop (256 * first)) ≤ 1000) :
    Calls Try.prog 32 #[.pointer (some ⟨Bl, 0, none⟩), .pointer (some ⟨Bf, 0, none⟩), .pointer (some ⟨Bh, 0, none⟩)] w fun e w' => e = .returned (.int .i64 (Wl.wst s (2 + area * k + first) (b.drop (256 * first)) (Wl.nch (b.drop (256 * first)))).1) ∧ DskAt w' FD g (Wl.wst s (2 + area * k + first) (b.drop (256 * first)) (Wl.nch (b.drop (256 * first)))).2 ∧ Keeps FD w w' := by
  obtain ⟨i, hi⟩ : ∃ i, 256 * first = i := ⟨_, rfl⟩
  rw [hi] at hlt hl ⊢
  obtain ⟨r, hr⟩ : ∃ r, n - i = r := ⟨_, rfl⟩
  obtain ⟨cr, hcr⟩ : ∃ r, c - i = r := ⟨_, rfl⟩
  have hbl : (b.drop i).length = r := by rw [List.length_drop, hn, hr]
  obtain ⟨b2, hb2'⟩ : ∃ x, b.drop i = x := ⟨_, rfl⟩
  rw [hb2'] at hbl hl ⊢
  have hs2 : ∀ V, Keeps FD w V → Src V (some (ad.add i)) (bvs b2) := fun V hV => by
    have h := (hs.keeps hV (fun a ha _ => by injection ha with ha; subst ha; exact hA)).drop i c (by rw [bvs_length, hn]; exact hbc)
    rw [if_neg (by omega), bvs_drop, hb2'] at h
    exact h
  have hadb : (ad.add i).block = ad.block := by unfold Addr.add; split <;> rfl
  obtain ⟨st, hst⟩ : ∃ x, Wl.wst s (2 + area * k + first) b2 (Wl.nch b2) = x := ⟨_, rfl⟩
  obtain ⟨er, s'⟩ := st
  have HWR : Hid (∀ V, Keeps FD w V → DskAt V FD g s → Calls Try.prog 33 #[.pointer (some ⟨p, 0, none⟩), .int .i64 (area : Int), .int .i64 (first : Int), .slice (some (ad.add i)) r cr] V fun e w' => e = .returned (.int .i64 er) ∧ Keeps FD w w' ∧ DskAt w' FD g s') := Lib.hid (fun V hV hd => by
    have h := wwrite_any V FD p g k area first s _ (some (ad.add i)) cr b2 (hR.keeps hV hp) hd hp (fun k hk => hclo k (Nat.le_trans hV.size hk)) (hs2 V hV) (fun a ha => by injection ha with ha; rw [← ha, hadb]; exact hA) hk ha hf (by omega) (by omega) (by omega) hl
    rw [hbl, hst] at h
    refine h.mono ?_
    rintro e w' ⟨e1, e2, e3⟩
    exact ⟨e1, hV.trans e3, e2⟩)
  have HL : Hid (∀ V, Keeps FD w V → V.cell? ⟨Bl, 0, none⟩ = some (.pointer (some ⟨p, 0, none⟩))) := Lib.hid (fun V hV => (h1.keeps hV hb1).cell 0)
  have HF : Hid (∀ V, Keeps FD w V → V.cell? ⟨Bf, 0, none⟩ = some (.int .i64 (first : Int))) := Lib.hid (fun V hV => (h2.keeps hV hb2).cell 0)
  have HH : Hid (∀ V, Keeps FD w V → V.cell? ⟨Bh, 0, none⟩ = some (.slice (some ad) n c)) := Lib.hid (fun V hV => (h3.keeps hV hb3).cell 0)
  have HP3 : Hid (∀ V, Keeps FD w V → V.cell? ⟨p, 3, none⟩ = some (.int .i64 (area : Int))) := Lib.hid (fun V hV => (hR.keeps hV hp).cell 3)
  have HSL : Hid (∀ V : World, (Instr.sliceAt 33 (.slice (some ad) n c) (some (.int .i64 (i : Int))) none none).run Try.prog V = .ok (.slice (some (ad.add i)) r cr) V) := Lib.hid (fun V => by rw [← hr, ← hcr]; exact slice_from V ad n c i (by omega) hbc (by omega))
  have ei : IntKind.i64.wrap ((first : Int) * 256) = (i : Int) := by rw [IntWalk.i64_in _ (by omega)]; omega
  have HD := Lib.hid hD
  rw [hst]
  clear hR hD h1 h2 h3 hs hs2 hst hbl hb2' hl hi hr hcr hadb
  go_enter Try.func32, Try.ntmps32
  go_wp2_with fail
  refine wp_region_stores 12 [10] [0, 1, 2, 3, 4, 5, 6, 7, 8, 9, 10, 11] (fun V => Keeps FD w V) (fun V => DskAt V FD g s) (by kernel_rfl) (by kernel_rfl) (fun _ _ h k => h.trans (k.mono (fun _ _ h => h.elim))) (fun _ _ h k => h.later k) ((Keeps.refl _ _).drew) (HD.out.later ((Keeps.refl _ _).drew)) ?_
  refine T_cell (get_op rfl) (by rfl) (by rfl) 29 (.tmp 0) (by rfl) ⟨Bl, 0, none⟩ (by rfl) (.pointer (some ⟨p, 0, none⟩)) _ (fun V hV => HL.out V hV) Try.underlying29 rfl ?_
  simp only [Act.put, List.setIfInBounds_toArray, List.set_cons_zero, List.set_cons_succ]
  refine T_cell (get_op rfl) (by rfl) (by rfl) 29 (.tmp 0) (by rfl) ⟨Bl, 0, none⟩ (by rfl) (.pointer (some ⟨p, 0, none⟩)) _ (fun V hV => HL.out V hV) Try.underlying29 rfl ?_
  simp only [Act.put, List.setIfInBounds_toArray, List.set_cons_zero, List.set_cons_succ]
  refine T_value (get_op rfl) (by rfl) (by rfl) (.pointer (some ⟨p, 0, none⟩)) (fun _ _ => by go_simp) ?_
  simp only [Act.put, List.setIfInBounds_toArray, List.set_cons_zero, List.set_cons_succ]
  refine T_value (get_op rfl) (by rfl) (by rfl) (.pointer (some ⟨p, 3, none⟩)) (fun _ _ => by go_simp) ?_
  simp only [Act.put, List.setIfInBounds_toArray, List.set_cons_zero, List.set_cons_succ]
  refine T_cell (get_op rfl) (by rfl) (by rfl) 3 (.tmp 7) (by rfl) ⟨p, 3, none⟩ (by rfl) (.int .i64 (area : Int)) _ (fun V hV => HP3.out V hV) Try.underlying3 rfl ?_
  simp only [Act.put, List.setIfInBounds_toArray, List.set_cons_zero, List.set_cons_succ]
  refine T_cell (get_op rfl) (by rfl) (by rfl) 3 (.tmp 1) (by rfl) ⟨Bf, 0, none⟩ (by rfl) (.int .i64 (first : Int)) _ (fun V hV => HF.out V hV) Try.underlying3 rfl ?_
  simp only [Act.put, List.setIfInBounds_toArray, List.set_cons_zero, List.set_cons_succ]
  refine T_cell (get_op rfl) (by rfl) (by rfl) 33 (.tmp 2) (by rfl) ⟨Bh, 0, none⟩ (by rfl) (.slice (some ad) n c) _ (fun V hV => HH.out V hV) Try.underlying33 rfl ?_
  simp only [Act.put, List.setIfInBounds_toArray, List.set_cons_zero, List.set_cons_succ]
  refine T_cell (get_op rfl) (by rfl) (by rfl) 3 (.tmp 1) (by rfl) ⟨Bf, 0, none⟩ (by rfl) (.int .i64 (first : Int)) _ (fun V hV => HF.out V hV) Try.underlying3 rfl ?_
  simp only [Act.put, List.setIfInBounds_toArray, List.set_cons_zero, List.set_cons_succ]
  refine T_value (get_op rfl) (by rfl) (by rfl) (.int .i64 (i : Int)) (fun _ _ => by go_simp) ?_
  simp only [Act.put, List.setIfInBounds_toArray, List.set_cons_zero, List.set_cons_succ]
  refine T_value (get_op rfl) (by rfl) (by rfl) (.slice (some (ad.add i)) r cr) (fun _ _ => by have hsl := HSL.out; go_simp) ?_
  simp only [Act.put, List.setIfInBounds_toArray, List.set_cons_zero, List.set_cons_succ]
  refine T_enter (get_op rfl) (by rfl) (by rfl) _ _ (.int .i64 er) (fun _ => by go_simp) (fun V => DskAt V FD g s') (fun _ _ h k => h.later k) (fun V hb hf => HWR.out V hb hf) ?_
  simp only [Act.put, List.setIfInBounds_toArray, List.set_cons_zero, List.set_cons_succ]
  refine T_value (get_op rfl) (by rfl) (by rfl) (.int .i64 er) (fun _ _ => by go_simp) ?_
  simp only [Act.put, List.setIfInBounds_toArray, List.set_cons_zero, List.set_cons_succ]
  refine T_nil ?_
  intro V9 k9 f9
  simp only [List.drop_succ_cons, List.drop_zero]
  go_wp2_with fail
  go_ret
  exact ⟨rfl, f9, k9⟩
theorem ap2_any (w : World) (p m n c : Nat) (A : Option Addr) (v0 v1 v2 v3 v4 v6 v7 : Value) (Bl Bh : Nat) (hR : Row w p 62 [v0, v1, v2, v3, v4, .int .i64 (m : Int), v6, v7]) (hm : m ≤ 1000000000)
    (h1 : Row w Bl 29 [.pointer (some ⟨p, 0, none⟩)]) (h3 : Row w Bh 33 [.slice A n c]) (hb1 : Bl ≠ p) (hb3 : Bh ≠ p) :
    Calls Try.prog 34 #[.pointer (some ⟨Bh, 0, none⟩), .pointer (some ⟨Bl, 0, none⟩)] w fun e w' => e = .returned (.int .i64 0) ∧ Row w' p 62 [v0, v1, v2, v3, .slice A n c, .int .i64 ((m : Int) + 1), v6, v7] ∧ Keeps (fun k => k = p) w w' := by
  have HL : Hid (∀ V, Keeps (fun k => k = p) w V → V.cell? ⟨Bl, 0, none⟩ = some (.pointer (some ⟨p, 0, none⟩))) := Lib.hid (fun V hV => (h1.keeps hV hb1).cell 0)
  have HH : Hid (∀ V, Keeps (fun k => k = p) w V → V.cell? ⟨Bh, 0, none⟩ = some (.slice A n c)) := Lib.hid (fun V hV => (h3.keeps hV hb3).cell 0)
  have HR5 : Hid (w.cell? ⟨p, 5, none⟩ = some (.int .i64 (m : Int))) := Lib.hid (hR.cell 5)
  have HRP := Lib.hid hR
  have e1 : IntKind.i64.wrap ((m : Int) + 1) = (m : Int) + 1 := IntWalk.i64_in _ (by omega)
  clear hR h1 h3
  go_enter Try.func34, Try.ntmps34
  go_wp2_with fail
  refine wp_region_stores 13 [10] [0, 1, 2, 3, 4, 5, 6, 7, 8, 9, 10, 11, 12] (fun V => Keeps (fun k => k = p) w V ∧ V.cell? ⟨p, 5, none⟩ = some (.int .i64 (m : Int))) (fun V => Row V p 62 [v0, v1, v2, v3, v4, (.int .i64 (m : Int)), v6, v7]) (by kernel_rfl) (by kernel_rfl) (fun _ _ h k => ⟨h.1.trans' k (fun _ _ h => h.elim), (k.cell (World.block_lt_of_cell? _ _ h.2) id).trans h.2⟩) (Lasts.block _ _) (⟨(Keeps.refl _ _).drew, HR5.out⟩) (HRP.out) ?_
  refine T_cell (get_op rfl) (by rfl) (by rfl) 29 (.tmp 1) (by rfl) ⟨Bl, 0, none⟩ (by rfl) (.pointer (some ⟨p, 0, none⟩)) _ (fun V hV => HL.out V hV.1) Try.underlying29 rfl ?_
  simp only [Act.put, List.setIfInBounds_toArray, List.set_cons_zero, List.set_cons_succ]
  refine T_cell (get_op rfl) (by rfl) (by rfl) 29 (.tmp 1) (by rfl) ⟨Bl, 0, none⟩ (by rfl) (.pointer (some ⟨p, 0, none⟩)) _ (fun V hV => HL.out V hV.1) Try.underlying29 rfl ?_
  simp only [Act.put, List.setIfInBounds_toArray, List.set_cons_zero, List.set_cons_succ]
  refine T_cell (get_op rfl) (by rfl) (by rfl) 33 (.tmp 0) (by rfl) ⟨Bh, 0, none⟩ (by rfl) (.slice A n c) _ (fun V hV => HH.out V hV.1) Try.underlying33 rfl ?_
  simp only [Act.put, List.setIfInBounds_toArray, List.set_cons_zero, List.set_cons_succ]
  refine T_cell (get_op rfl) (by rfl) (by rfl) 29 (.tmp 1) (by rfl) ⟨Bl, 0, none⟩ (by rfl) (.pointer (some ⟨p, 0, none⟩)) _ (fun V hV => HL.out V hV.1) Try.underlying29 rfl ?_
  simp only [Act.put, List.setIfInBounds_toArray, List.set_cons_zero, List.set_cons_succ]
  refine T_value (get_op rfl) (by rfl) (by rfl) (.pointer (some ⟨p, 0, none⟩)) (fun _ _ => by go_simp) ?_
  simp only [Act.put, List.setIfInBounds_toArray, List.set_cons_zero, List.set_cons_succ]
  refine T_value (get_op rfl) (by rfl) (by rfl) (.pointer (some ⟨p, 5, none⟩)) (fun _ _ => by go_simp) ?_
  simp only [Act.put, List.setIfInBounds_toArray, List.set_cons_zero, List.set_cons_succ]
  refine T_cell (get_op rfl) (by rfl) (by rfl) 3 (.tmp 8) (by rfl) ⟨p, 5, none⟩ (by rfl) (.int .i64 (m : Int)) _ (fun V hV => hV.2) Try.underlying3 rfl ?_
  simp only [Act.put, List.setIfInBounds_toArray, List.set_cons_zero, List.set_cons_succ]
  refine T_value (get_op rfl) (by rfl) (by rfl) (.int .i64 ((m : Int) + 1)) (fun _ _ => by go_simp) ?_
  simp only [Act.put, List.setIfInBounds_toArray, List.set_cons_zero, List.set_cons_succ]
  refine T_value (get_op rfl) (by rfl) (by rfl) (.pointer (some ⟨p, 0, none⟩)) (fun _ _ => by go_simp) ?_
  simp only [Act.put, List.setIfInBounds_toArray, List.set_cons_zero, List.set_cons_succ]
  refine T_value (get_op rfl) (by rfl) (by rfl) (.pointer (some ⟨p, 4, none⟩)) (fun _ _ => by go_simp) ?_
  simp only [Act.put, List.setIfInBounds_toArray, List.set_cons_zero, List.set_cons_succ]
  refine T_cell_store (get_op rfl) (by rfl) (by rfl) 33 (.tmp 12) (.tmp 5) (by rfl) (by rfl) ⟨p, 4, none⟩ (by rfl) (.slice A n c) (by rfl) rfl rfl (by kernel_rfl) (fun V => Row V p 62 [v0, v1, v2, v3, (.slice A n c), (.int .i64 (m : Int)), v6, v7]) (Lasts.block _ _) (fun V hb hf => ⟨⟨_, hf.cell 4⟩, hf.frozen 4, ⟨hb.1.trans ((Keeps.refl (fun k => k = p) V).setCell (p := ⟨p, 4, none⟩) (fun _ => rfl) _), by rw [(hf.set 4 (.slice A n c)).cell]; rfl⟩, hf.set 4 (.slice A n c)⟩) ?_
  refine T_value (get_op rfl) (by rfl) (by rfl) (.pointer (some ⟨p, 0, none⟩)) (fun _ _ => by go_simp) ?_
  simp only [Act.put, List.setIfInBounds_toArray, List.set_cons_zero, List.set_cons_succ]
  refine T_value (get_op rfl) (by rfl) (by rfl) (.pointer (some ⟨p, 5, none⟩)) (fun _ _ => by go_simp) ?_
  simp only [Act.put, List.setIfInBounds_toArray, List.set_cons_zero, List.set_cons_succ]
  refine T_nil ?_
  intro V9 k9 f9
  simp only [List.drop_succ_cons, List.drop_zero]
  have c5 : V9.cell? ⟨p, 5, none⟩ = some (.int .i64 (m : Int)) := f9.cell 5
  have g5 := f9.frozen 5
  have HF9 := Lib.hid (And.intro (f9.set 5 (.int .i64 ((m : Int) + 1))) (k9.1.trans ((Keeps.refl (fun k => k = p) V9).setCell (p := ⟨p, 5, none⟩) (fun _ => rfl) (.int .i64 ((m : Int) + 1)))))
  clear f9 k9
  go_wp2_with fail
  go_ret
  exact ⟨rfl, HF9.out.1, HF9.out.2⟩
theorem sy2_any (w : World) (p m t : Nat) (v0 v1 v2 v3 v4 v6 v7 : Value) (ns : List Value) (Bl Bn : Nat) (hR : Row w p 62 [v0, v1, v2, v3, v4, .int .i64 (m : Int), v6, v7])
    (h1 : Row w Bl 29 [.pointer (some ⟨p, 0, none⟩)]) (h3 : Row w Bn 64 (.int .u64 (t : Int) :: ns)) (hb1 : Bl ≠ p) (hb3 : Bn ≠ p) :
    Calls Try.prog 40 #[.pointer (some ⟨Bn, 0, none⟩), .pointer (some ⟨Bl, 0, none⟩)] w fun e w' => e = .returned (.int .i64 0) ∧ Row w' p 62 [v0, v1, .int .u64 (t : Int), v3, v4, .int .i64 (m : Int), .int .i64 (m : Int), v7] ∧ Keeps (fun k => k = p) w w' := by
  have HL : Hid (∀ V, Keeps (fun k => k = p) w V → V.cell? ⟨Bl, 0, none⟩ = some (.pointer (some ⟨p, 0, none⟩))) := Lib.hid (fun V hV => (h1.keeps hV hb1).cell 0)
  have HN : Hid (∀ V, Keeps (fun k => k = p) w V → V.cell? ⟨Bn, 0, none⟩ = some (.int .u64 (t : Int))) := Lib.hid (fun V hV => (h3.keeps hV hb3).cell 0)
  have HR5 : Hid (w.cell? ⟨p, 5, none⟩ = some (.int .i64 (m : Int))) := Lib.hid (hR.cell 5)
  have HRP := Lib.hid hR
  clear hR h1 h3
  go_enter Try.func40, Try.ntmps40
  go_wp2_with fail
  refine wp_region_stores 14 [10, 13] [0, 1, 2, 3, 4, 5, 6, 7, 8, 9, 10, 11, 12, 13] (fun V => Keeps (fun k => k = p) w V ∧ V.cell? ⟨p, 5, none⟩ = some (.int .i64 (m : Int))) (fun V => Row V p 62 [v0, v1, v2, v3, v4, (.int .i64 (m : Int)), v6, v7]) (by kernel_rfl) (by kernel_rfl) (fun _ _ h k => ⟨h.1.trans' k (fun _ _ h => h.elim), (k.cell (World.block_lt_of_cell? _ _ h.2) id).trans h.2⟩) (Lasts.block _ _) (⟨(Keeps.refl _ _).drew, HR5.out⟩) (HRP.out) ?_
  refine T_cell (get_op rfl) (by rfl) (by rfl) 29 (.tmp 1) (by rfl) ⟨Bl, 0, none⟩ (by rfl) (.pointer (some ⟨p, 0, none⟩)) _ (fun V hV => HL.out V hV.1) Try.underlying29 rfl ?_
  simp only [Act.put, List.setIfInBounds_toArray, List.set_cons_zero, List.set_cons_succ]
  refine T_cell (get_op rfl) (by rfl) (by rfl) 29 (.tmp 1) (by rfl) ⟨Bl, 0, none⟩ (by rfl) (.pointer (some ⟨p, 0, none⟩)) _ (fun V hV => HL.out V hV.1) Try.underlying29 rfl ?_
  simp only [Act.put, List.setIfInBounds_toArray, List.set_cons_zero, List.set_cons_succ]
  refine T_value (get_op rfl) (by rfl) (by rfl) (.pointer (some ⟨Bn, 0, none⟩)) (fun _ _ => by go_simp) ?_
  simp only [Act.put, List.setIfInBounds_toArray, List.set_cons_zero, List.set_cons_succ]
  refine T_cell (get_op rfl) (by rfl) (by rfl) 60 (.tmp 5) (by rfl) ⟨Bn, 0, none⟩ (by rfl) (.int .u64 (t : Int)) _ (fun V hV => HN.out V hV.1) Try.underlying60 rfl ?_
  simp only [Act.put, List.setIfInBounds_toArray, List.set_cons_zero, List.set_cons_succ]
  refine T_cell (get_op rfl) (by rfl) (by rfl) 29 (.tmp 1) (by rfl) ⟨Bl, 0, none⟩ (by rfl) (.pointer (some ⟨p, 0, none⟩)) _ (fun V hV => HL.out V hV.1) Try.underlying29 rfl ?_
  simp only [Act.put, List.setIfInBounds_toArray, List.set_cons_zero, List.set_cons_succ]
  refine T_value (get_op rfl) (by rfl) (by rfl) (.pointer (some ⟨p, 0, none⟩)) (fun _ _ => by go_simp) ?_
  simp only [Act.put, List.setIfInBounds_toArray, List.set_cons_zero, List.set_cons_succ]
  refine T_value (get_op rfl) (by rfl) (by rfl) (.pointer (some ⟨p, 5, none⟩)) (fun _ _ => by go_simp) ?_
  simp only [Act.put, List.setIfInBounds_toArray, List.set_cons_zero, List.set_cons_succ]
  refine T_cell (get_op rfl) (by rfl) (by rfl) 3 (.tmp 9) (by rfl) ⟨p, 5, none⟩ (by rfl) (.int .i64 (m : Int)) _ (fun V hV => hV.2) Try.underlying3 rfl ?_
  simp only [Act.put, List.setIfInBounds_toArray, List.set_cons_zero, List.set_cons_succ]
  refine T_value (get_op rfl) (by rfl) (by rfl) (.pointer (some ⟨p, 0, none⟩)) (fun _ _ => by go_simp) ?_
  simp only [Act.put, List.setIfInBounds_toArray, List.set_cons_zero, List.set_cons_succ]
  refine T_value (get_op rfl) (by rfl) (by rfl) (.pointer (some ⟨p, 2, none⟩)) (fun _ _ => by go_simp) ?_
  simp only [Act.put, List.setIfInBounds_toArray, List.set_cons_zero, List.set_cons_succ]
  refine T_cell_store (get_op rfl) (by rfl) (by rfl) 60 (.tmp 12) (.tmp 6) (by rfl) (by rfl) ⟨p, 2, none⟩ (by rfl) (.int .u64 (t : Int)) (by rfl) rfl rfl (by kernel_rfl) (fun V => Row V p 62 [v0, v1, (.int .u64 (t : Int)), v3, v4, (.int .i64 (m : Int)), v6, v7]) (Lasts.block _ _) (fun V hb hf => ⟨⟨_, hf.cell 2⟩, hf.frozen 2, ⟨hb.1.trans ((Keeps.refl (fun k => k = p) V).setCell (p := ⟨p, 2, none⟩) (fun _ => rfl) _), by rw [(hf.set 2 (.int .u64 (t : Int))).cell]; rfl⟩, hf.set 2 (.int .u64 (t : Int))⟩) ?_
  refine T_value (get_op rfl) (by rfl) (by rfl) (.pointer (some ⟨p, 0, none⟩)) (fun _ _ => by go_simp) ?_
  simp only [Act.put, List.setIfInBounds_toArray, List.set_cons_zero, List.set_cons_succ]
  refine T_value (get_op rfl) (by rfl) (by rfl) (.pointer (some ⟨p, 6, none⟩)) (fun _ _ => by go_simp) ?_
  simp only [Act.put, List.setIfInBounds_toArray, List.set_cons_zero, List.set_cons_succ]
  refine T_cell_store (get_op rfl) (by rfl) (by rfl) 3 (.tmp 14) (.tmp 10) (by rfl) (by rfl) ⟨p, 6, none⟩ (by rfl) (.int .i64 (m : Int)) (by rfl) rfl rfl (by kernel_rfl) (fun V => Row V p 62 [v0, v1, (.int .u64 (t : Int)), v3, v4, (.int .i64 (m : Int)), (.int .i64 (m : Int)), v7]) (Lasts.block _ _) (fun V hb hf => ⟨⟨_, hf.cell 6⟩, hf.frozen 6, ⟨hb.1.trans ((Keeps.refl (fun k => k = p) V).setCell (p := ⟨p, 6, none⟩) (fun _ => rfl) _), by rw [(hf.set 6 (.int .i64 (m : Int))).cell]; rfl⟩, hf.set 6 (.int .i64 (m : Int))⟩) ?_
  refine T_nil ?_
  intro V9 k9 f9
  simp only [List.drop_succ_cons, List.drop_zero]
  go_wp2_with fail
  go_ret
  exact ⟨rfl, f9, k9.1⟩
theorem cp3_any (w : World) (p m t a n c cr : Nat) (A Ar : Option Addr) (v0 v1 v2 v3 v4 v5 v6 v7 : Value) (ns : List Value) (Bl Bn Bh Br : Nat) (hR : Row w p 62 [v0, v1, v2, v3, v4, v5, v6, v7])
    (h1 : Row w Bl 29 [.pointer (some ⟨p, 0, none⟩)]) (h2 : Row w Bn 64 (.int .u64 (t : Int) :: .int .i64 (a : Int) :: ns)) (h3 : Row w Bh 33 [.slice A n c]) (h4 : Row w Br 23 [.slice Ar m cr]) (hb1 : Bl ≠ p) (hb2 : Bn ≠ p) (hb3 : Bh ≠ p) (hb4 : Br ≠ p) :
    Calls Try.prog 44 #[.pointer (some ⟨Bn, 0, none⟩), .pointer (some ⟨Bh, 0, none⟩), .pointer (some ⟨Bl, 0, none⟩), .pointer (some ⟨Br, 0, none⟩)] w fun e w' => e = .returned (.int .i64 0) ∧ Row w' p 62 [v0, v1, .int .u64 (t : Int), .int .i64 (a : Int), .slice A n c, .int .i64 (m : Int), .int .i64 (m : Int), v7] ∧ Keeps (fun k => k = p) w w' := by
  have HL : Hid (∀ V, Keeps (fun k => k = p) w V → V.cell? ⟨Bl, 0, none⟩ = some (.pointer (some ⟨p, 0, none⟩))) := Lib.hid (fun V hV => (h1.keeps hV hb1).cell 0)
  have HN : Hid (∀ V, Keeps (fun k => k = p) w V → V.cell? ⟨Bn, 0, none⟩ = some (.int .u64 (t : Int))) := Lib.hid (fun V hV => (h2.keeps hV hb2).cell 0)
  have HN1 : Hid (∀ V, Keeps (fun k => k = p) w V → V.cell? ⟨Bn, 1, none⟩ = some (.int .i64 (a : Int))) := Lib.hid (fun V hV => (h2.keeps hV hb2).cell 1)
  have HH : Hid (∀ V, Keeps (fun k => k = p) w V → V.cell? ⟨Bh, 0, none⟩ = some (.slice A n c)) := Lib.hid (fun V hV => (h3.keeps hV hb3).cell 0)
  have HRR : Hid (∀ V, Keeps (fun k => k = p) w V → V.cell? ⟨Br, 0, none⟩ = some (.slice Ar m cr)) := Lib.hid (fun V hV => (h4.keeps hV hb4).cell 0)
  have HRP := Lib.hid hR
  clear hR h1 h2 h3 h4
  go_enter Try.func44, Try.ntmps44
  go_wp2_with fail
  refine wp_region_stores 17 [10, 13, 16] [0, 1, 2, 3, 4, 5, 6, 7, 8, 9, 10, 11, 12, 13, 14, 15, 16] (fun V => Keeps (fun k => k = p) w V) (fun V => Row V p 62 [v0, v1, v2, v3, v4, v5, v6, v7]) (by kernel_rfl) (by kernel_rfl) (fun _ _ h k => h.trans' k (fun _ _ h => h.elim)) (Lasts.block _ _) ((Keeps.refl _ _).drew) (HRP.out) ?_
  refine T_cell (get_op rfl) (by rfl) (by rfl) 29 (.tmp 2) (by rfl) ⟨Bl, 0, none⟩ (by rfl) (.pointer (some ⟨p, 0, none⟩)) _ (fun V hV => HL.out V hV) Try.underlying29 rfl ?_
  simp only [Act.put, List.setIfInBounds_toArray, List.set_cons_zero, List.set_cons_succ]
  refine T_cell (get_op rfl) (by rfl) (by rfl) 29 (.tmp 2) (by rfl) ⟨Bl, 0, none⟩ (by rfl) (.pointer (some ⟨p, 0, none⟩)) _ (fun V hV => HL.out V hV) Try.underlying29 rfl ?_
  simp only [Act.put, List.setIfInBounds_toArray, List.set_cons_zero, List.set_cons_succ]
  refine T_cell (get_op rfl) (by rfl) (by rfl) 29 (.tmp 2) (by rfl) ⟨Bl, 0, none⟩ (by rfl) (.pointer (some ⟨p, 0, none⟩)) _ (fun V hV => HL.out V hV) Try.underlying29 rfl ?_
  simp only [Act.put, List.setIfInBounds_toArray, List.set_cons_zero, List.set_cons_succ]
  refine T_value (get_op rfl) (by rfl) (by rfl) (.pointer (some ⟨Bn, 0, none⟩)) (fun _ _ => by go_simp) ?_
  simp only [Act.put, List.setIfInBounds_toArray, List.set_cons_zero, List.set_cons_succ]
  refine T_cell (get_op rfl) (by rfl) (by rfl) 60 (.tmp 8) (by rfl) ⟨Bn, 0, none⟩ (by rfl) (.int .u64 (t : Int)) _ (fun V hV => HN.out V hV) Try.underlying60 rfl ?_
  simp only [Act.put, List.setIfInBounds_toArray, List.set_cons_zero, List.set_cons_succ]
  refine T_value (get_op rfl) (by rfl) (by rfl) (.pointer (some ⟨Bn, 1, none⟩)) (fun _ _ => by go_simp) ?_
  simp only [Act.put, List.setIfInBounds_toArray, List.set_cons_zero, List.set_cons_succ]
  refine T_cell (get_op rfl) (by rfl) (by rfl) 3 (.tmp 10) (by rfl) ⟨Bn, 1, none⟩ (by rfl) (.int .i64 (a : Int)) _ (fun V hV => HN1.out V hV) Try.underlying3 rfl ?_
  simp only [Act.put, List.setIfInBounds_toArray, List.set_cons_zero, List.set_cons_succ]
  refine T_cell (get_op rfl) (by rfl) (by rfl) 33 (.tmp 1) (by rfl) ⟨Bh, 0, none⟩ (by rfl) (.slice A n c) _ (fun V hV => HH.out V hV) Try.underlying33 rfl ?_
  simp only [Act.put, List.setIfInBounds_toArray, List.set_cons_zero, List.set_cons_succ]
  refine T_value (get_op rfl) (by rfl) (by rfl) (.pointer (some ⟨p, 0, none⟩)) (fun _ _ => by go_simp) ?_
  simp only [Act.put, List.setIfInBounds_toArray, List.set_cons_zero, List.set_cons_succ]
  refine T_value (get_op rfl) (by rfl) (by rfl) (.pointer (some ⟨p, 2, none⟩)) (fun _ _ => by go_simp) ?_
  simp only [Act.put, List.setIfInBounds_toArray, List.set_cons_zero, List.set_cons_succ]
  refine T_cell_store (get_op rfl) (by rfl) (by rfl) 60 (.tmp 14) (.tmp 9) (by rfl) (by rfl) ⟨p, 2, none⟩ (by rfl) (.int .u64 (t : Int)) (by rfl) rfl rfl (by kernel_rfl) (fun V => Row V p 62 [v0, v1, (.int .u64 (t : Int)), v3, v4, v5, v6, v7]) (Lasts.block _ _) (fun V hb hf => ⟨⟨_, hf.cell 2⟩, hf.frozen 2, hb.trans ((Keeps.refl (fun k => k = p) V).setCell (p := ⟨p, 2, none⟩) (fun _ => rfl) _), hf.set 2 (.int .u64 (t : Int))⟩) ?_
  refine T_value (get_op rfl) (by rfl) (by rfl) (.pointer (some ⟨p, 0, none⟩)) (fun _ _ => by go_simp) ?_
  simp only [Act.put, List.setIfInBounds_toArray, List.set_cons_zero, List.set_cons_succ]
  refine T_value (get_op rfl) (by rfl) (by rfl) (.pointer (some ⟨p, 3, none⟩)) (fun _ _ => by go_simp) ?_
  simp only [Act.put, List.setIfInBounds_toArray, List.set_cons_zero, List.set_cons_succ]
  refine T_cell_store (get_op rfl) (by rfl) (by rfl) 3 (.tmp 16) (.tmp 11) (by rfl) (by rfl) ⟨p, 3, none⟩ (by rfl) (.int .i64 (a : Int)) (by rfl) rfl rfl (by kernel_rfl) (fun V => Row V p 62 [v0, v1, (.int .u64 (t : Int)), (.int .i64 (a : Int)), v4, v5, v6, v7]) (Lasts.block _ _) (fun V hb hf => ⟨⟨_, hf.cell 3⟩, hf.frozen 3, hb.trans ((Keeps.refl (fun k => k = p) V).setCell (p := ⟨p, 3, none⟩) (fun _ => rfl) _), hf.set 3 (.int .i64 (a : Int))⟩) ?_
  refine T_value (get_op rfl) (by rfl) (by rfl) (.pointer (some ⟨p, 0, none⟩)) (fun _ _ => by go_simp) ?_
  simp only [Act.put, List.setIfInBounds_toArray, List.set_cons_zero, List.set_cons_succ]
  refine T_value (get_op rfl) (by rfl) (by rfl) (.pointer (some ⟨p, 4, none⟩)) (fun _ _ => by go_simp) ?_
  simp only [Act.put, List.setIfInBounds_toArray, List.set_cons_zero, List.set_cons_succ]
  refine T_cell_store (get_op rfl) (by rfl) (by rfl) 33 (.tmp 18) (.tmp 12) (by rfl) (by rfl) ⟨p, 4, none⟩ (by rfl) (.slice A n c) (by rfl) rfl rfl (by kernel_rfl) (fun V => Row V p 62 [v0, v1, (.int .u64 (t : Int)), (.int .i64 (a : Int)), (.slice A n c), v5, v6, v7]) (Lasts.block _ _) (fun V hb hf => ⟨⟨_, hf.cell 4⟩, hf.frozen 4, hb.trans ((Keeps.refl (fun k => k = p) V).setCell (p := ⟨p, 4, none⟩) (fun _ => rfl) _), hf.set 4 (.slice A n c)⟩) ?_
  refine T_nil ?_
  intro V9 k9 f9
  simp only [List.drop_succ_cons, List.drop_zero]
  go_wp2_with fail
  refine wp_region_stores 12 [8, 11] [0, 1, 2, 3, 4, 5, 6, 7, 8, 9, 10, 11] (fun V => Keeps (fun k => k = p) w V) (fun V => Row V p 62 [v0, v1, (.int .u64 (t : Int)), (.int .i64 (a : Int)), (.slice A n c), v5, v6, v7]) (by kernel_rfl) (by kernel_rfl) (fun _ _ h k => h.trans' k (fun _ _ h => h.elim)) (Lasts.block _ _) (k9.drew) (f9) ?_
  refine T_cell (get_op rfl) (by rfl) (by rfl) 29 (.tmp 2) (by rfl) ⟨Bl, 0, none⟩ (by rfl) (.pointer (some ⟨p, 0, none⟩)) _ (fun V hV => HL.out V hV) Try.underlying29 rfl ?_
  simp only [Act.put, List.setIfInBounds_toArray, List.set_cons_zero, List.set_cons_succ]
  refine T_cell (get_op rfl) (by rfl) (by rfl) 29 (.tmp 2) (by rfl) ⟨Bl, 0, none⟩ (by rfl) (.pointer (some ⟨p, 0, none⟩)) _ (fun V hV => HL.out V hV) Try.underlying29 rfl ?_
  simp only [Act.put, List.setIfInBounds_toArray, List.set_cons_zero, List.set_cons_succ]
  refine T_cell (get_op rfl) (by rfl) (by rfl) 23 (.tmp 3) (by rfl) ⟨Br, 0, none⟩ (by rfl) (.slice Ar m cr) _ (fun V hV => HRR.out V hV) Try.underlying23 rfl ?_
  simp only [Act.put, List.setIfInBounds_toArray, List.set_cons_zero, List.set_cons_succ]
  refine T_value (get_op rfl) (by rfl) (by rfl) (.int .i64 (m : Int)) (fun _ _ => by go_simp) ?_
  simp only [Act.put, List.setIfInBounds_toArray, List.set_cons_zero, List.set_cons_succ]
  refine T_cell (get_op rfl) (by rfl) (by rfl) 23 (.tmp 3) (by rfl) ⟨Br, 0, none⟩ (by rfl) (.slice Ar m cr) _ (fun V hV => HRR.out V hV) Try.underlying23 rfl ?_
  simp only [Act.put, List.setIfInBounds_toArray, List.set_cons_zero, List.set_cons_succ]
  refine T_value (get_op rfl) (by rfl) (by rfl) (.int .i64 (m : Int)) (fun _ _ => by go_simp) ?_
  simp only [Act.put, List.setIfInBounds_toArray, List.set_cons_zero, List.set_cons_succ]
  refine T_value (get_op rfl) (by rfl) (by rfl) (.pointer (some ⟨p, 0, none⟩)) (fun _ _ => by go_simp) ?_
  simp only [Act.put, List.setIfInBounds_toArray, List.set_cons_zero, List.set_cons_succ]
  refine T_value (get_op rfl) (by rfl) (by rfl) (.pointer (some ⟨p, 5, none⟩)) (fun _ _ => by go_simp) ?_
  simp only [Act.put, List.setIfInBounds_toArray, List.set_cons_zero, List.set_cons_succ]
  refine T_cell_store (get_op rfl) (by rfl) (by rfl) 3 (.tmp 26) (.tmp 22) (by rfl) (by rfl) ⟨p, 5, none⟩ (by rfl) (.int .i64 (m : Int)) (by rfl) rfl rfl (by kernel_rfl) (fun V => Row V p 62 [v0, v1, (.int .u64 (t : Int)), (.int .i64 (a : Int)), (.slice A n c), (.int .i64 (m : Int)), v6, v7]) (Lasts.block _ _) (fun V hb hf => ⟨⟨_, hf.cell 5⟩, hf.frozen 5, hb.trans ((Keeps.refl (fun k => k = p) V).setCell (p := ⟨p, 5, none⟩) (fun _ => rfl) _), hf.set 5 (.int .i64 (m : Int))⟩) ?_
  refine T_value (get_op rfl) (by rfl) (by rfl) (.pointer (some ⟨p, 0, none⟩)) (fun _ _ => by go_simp) ?_
  simp only [Act.put, List.setIfInBounds_toArray, List.set_cons_zero, List.set_cons_succ]
  refine T_value (get_op rfl) (by rfl) (by rfl) (.pointer (some ⟨p, 6, none⟩)) (fun _ _ => by go_simp) ?_
  simp only [Act.put, List.setIfInBounds_toArray, List.set_cons_zero, List.set_cons_succ]
  refine T_cell_store (get_op rfl) (by rfl) (by rfl) 3 (.tmp 28) (.tmp 24) (by rfl) (by rfl) ⟨p, 6, none⟩ (by rfl) (.int .i64 (m : Int)) (by rfl) rfl rfl (by kernel_rfl) (fun V => Row V p 62 [v0, v1, (.int .u64 (t : Int)), (.int .i64 (a : Int)), (.slice A n c), (.int .i64 (m : Int)), (.int .i64 (m : Int)), v7]) (Lasts.block _ _) (fun V hb hf => ⟨⟨_, hf.cell 6⟩, hf.frozen 6, hb.trans ((Keeps.refl (fun k => k = p) V).setCell (p := ⟨p, 6, none⟩) (fun _ => rfl) _), hf.set 6 (.int .i64 (m : Int))⟩) ?_
  refine T_nil ?_
  intro V10 k10 f10
  simp only [List.drop_succ_cons, List.drop_zero]
  go_wp2_with fail
  go_ret
  exact ⟨rfl, f10, k10⟩
end Go.Proofs.Ytnhegnncmjmafaa
