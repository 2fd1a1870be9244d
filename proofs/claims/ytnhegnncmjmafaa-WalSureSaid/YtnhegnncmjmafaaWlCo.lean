/-
  A log in memory; what is told of it.
  Records in frames: wal's framed.
  Supers: their bytes, and what a block tells of one.
  Supers: what a block tells of one (wal's superOf).
  Records out of frames (wal's unframed).
  An area is read (wal's read).
  The super of the greatest turn (wal's newest).
  A log is opened on a disk.
-/
import Derived.Test.YtnhegnncmjmafaaWlM
import Derived.Test.YtnhegnncmjmafaaCrC
import Derived.Test.YtnhegnncmjmafaaOpenL
import Derived.Test.YtnhegnncmjmafaaWrB
import Derived.Test.YtnhegnncmjmafaaClsW
import Derived.Test.YtnhegnncmjmafaaEqB
import Derived.Test.YtnhegnncmjmafaaDkRb
import Derived.Test.YtnhegnncmjmafaaWalkE
namespace Go.Proofs.Ytnhegnncmjmafaa
open Go.RowKit Go.BigFrame
set_option linter.unusedVariables false

/-- A log's cells. -/
def lcells (g : Nat) (l : Wl.St) (A : Option Addr) (c : Nat) : List Value :=
  [.pointer (some ⟨g, 0, none⟩), .int .i64 (l.k : Int), .int .u64 (l.turn : Int), .int .i64 (l.area : Int), .slice A (Wl.hv l).length c, .int .i64 (l.rows.length : Int), .int .i64 (l.sure : Int), .int .i64 l.err]
/-- A log lies at p, all of it in the blocks of F. -/
structure Log (w : World) (F : Nat → Prop) (p g : Nat) (l : Wl.St) (A : Option Addr) (c : Nat) : Prop where
  row : Row w p 62 (lcells g l A c)
  own : w.ownsRow 0 5 1 (.slice A (Wl.hv l).length c) (Wl.hv l).length (bvs (Wl.hv l))
  fp : F p
  fown : ∀ k, (Value.slice A (Wl.hv l).length c).ownBlock = some k → F k
  ok : Wl.Ok l
section
variable {w w' : World} {F : Nat → Prop} {p g : Nat} {l : Wl.St} {A : Option Addr} {c : Nat}
theorem Log.keeps {S : Nat → Prop} (h : Log w F p g l A c) (hk : Keeps S w w') (hs : ∀ k, k < w.heap.size → F k → ¬ S k) : Log w' F p g l A c :=
  ⟨h.row.keeps hk (hs p h.row.lt h.fp), hk.owns h.own (fun k hv => hs k (h.own.lt k hv).2 (h.fown k hv)), h.fp, h.fown, h.ok⟩
theorem Log.later (h : Log w F p g l A c) (hk : Keeps (fun _ => False) w w') : Log w' F p g l A c := h.keeps hk (fun _ _ _ => id)
theorem Log.mono {G : Nat → Prop} (h : Log w F p g l A c) (hs : ∀ k, k < w.heap.size → F k → G k) : Log w G p g l A c :=
  ⟨h.row, h.own, hs p h.row.lt h.fp, fun k hv => hs k (h.own.lt k hv).2 (h.fown k hv), h.ok⟩
def LogAt (w : World) (F : Nat → Prop) (p g : Nat) (l : Wl.St) : Prop := ∃ A c, Log w F p g l A c
theorem LogAt.keeps {S : Nat → Prop} (h : LogAt w F p g l) (hk : Keeps S w w') (hs : ∀ k, k < w.heap.size → F k → ¬ S k) : LogAt w' F p g l := by
  obtain ⟨_, _, h⟩ := h; exact ⟨_, _, h.keeps hk hs⟩
theorem LogAt.later (h : LogAt w F p g l) (hk : Keeps (fun _ => False) w w') : LogAt w' F p g l := h.keeps hk (fun _ _ _ => id)
theorem LogAt.mono {G : Nat → Prop} (h : LogAt w F p g l) (hs : ∀ k, k < w.heap.size → F k → G k) : LogAt w G p g l := by
  obtain ⟨_, _, h⟩ := h; exact ⟨_, _, h.mono hs⟩
theorem LogAt.ok (h : LogAt w F p g l) : Wl.Ok l := by obtain ⟨_, _, h⟩ := h; exact h.ok
end
theorem wroom_any (w : World) (p : Nat) (v : Value) (k : Nat) (cs : List Value) (h : Row w p 62 (v :: .int .i64 (k : Int) :: cs)) (hk : k ≤ 32767) :
    Calls Try.prog 41 #[.pointer (some ⟨p, 0, none⟩)] w fun e w' => e = .returned (.int .i64 ((256 * k : Nat) : Int)) ∧ w' = w := by
  have c1 : w.cell? ⟨p, 1, none⟩ = some (.int .i64 (k : Int)) := h.cell 1
  have e1 : IntKind.i64.wrap ((k : Int) * 256) = ((256 * k : Nat) : Int) := by rw [IntWalk.i64_in _ (by omega)]; omega
  obtain ⟨m, hm⟩ : ∃ m, 256 * k = m := ⟨_, rfl⟩
  rw [hm] at e1 ⊢
  clear h hm hk
  go_enter Try.func41, Try.ntmps41
  go_wp2
  go_ret
  exact ⟨rfl, rfl⟩
theorem wat_any (w : World) (p : Nat) (v : Value) (k area block : Nat) (cs : List Value) (h : Row w p 62 (v :: .int .i64 (k : Int) :: cs)) (hk : k ≤ 32767) (ha : area < 2) (hb : block ≤ 100000) :
    Calls Try.prog 49 #[.pointer (some ⟨p, 0, none⟩), .int .i64 (area : Int), .int .i64 (block : Int)] w fun e w' => e = .returned (.int .i64 ((2 + area * k + block : Nat) : Int)) ∧ w' = w := by
  have c1 : w.cell? ⟨p, 1, none⟩ = some (.int .i64 (k : Int)) := h.cell 1
  obtain ⟨m, hm⟩ : ∃ m, area * k = m := ⟨_, rfl⟩
  have hm1 : m ≤ 32767 := by
    rw [← hm]
    rcases (show area = 0 ∨ area = 1 by omega) with rfl | rfl <;> omega
  have e0 : (area : Int) * (k : Int) = (m : Int) := by rw [← hm]; exact (Int.natCast_mul _ _).symm
  have e1 : IntKind.i64.wrap ((area : Int) * (k : Int)) = (m : Int) := by rw [e0]; exact IntWalk.i64_in _ (by omega)
  have e2 : IntKind.i64.wrap (2 + (m : Int)) = 2 + (m : Int) := IntWalk.i64_in _ (by omega)
  have e3 : IntKind.i64.wrap (2 + (m : Int) + (block : Int)) = ((2 + m + block : Nat) : Int) := by rw [IntWalk.i64_in _ (by omega)]; omega
  obtain ⟨q, hq⟩ : ∃ q, 2 + m + block = q := ⟨_, rfl⟩
  rw [hm]
  rw [hq] at e3 ⊢
  clear h hq hk hm hm1 e0
  go_enter Try.func49, Try.ntmps49
  go_wp2
  go_ret
  exact ⟨rfl, rfl⟩
theorem werr_at (w : World) (p : Nat) (e0 : Int) (hc : w.cell? ⟨p, 7, none⟩ = some (.int .i64 e0)) :
    Calls Try.prog 23 #[.pointer (some ⟨p, 0, none⟩)] w fun e w' => e = .returned (.int .i64 e0) ∧ w' = w := by
  go_enter Try.func23, Try.ntmps23
  go_wp2
  go_ret
  exact ⟨rfl, rfl⟩
theorem werr_any (w : World) (F : Nat → Prop) (p g : Nat) (l : Wl.St) (h : LogAt w F p g l) :
    Calls Try.prog 23 #[.pointer (some ⟨p, 0, none⟩)] w fun e w' => e = .returned (.int .i64 l.err) ∧ w' = w := by
  obtain ⟨A, c, h⟩ := h
  exact werr_at w p l.err (h.row.cell 7)
theorem wsure_any (w : World) (F : Nat → Prop) (p g : Nat) (l : Wl.St) (h : LogAt w F p g l) :
    Calls Try.prog 21 #[.pointer (some ⟨p, 0, none⟩)] w fun e w' => e = .returned (.int .i64 (l.sure : Int)) ∧ w' = w := by
  obtain ⟨A, c, h⟩ := h
  have c6 : w.cell? ⟨p, 6, none⟩ = some (.int .i64 (l.sure : Int)) := h.row.cell 6
  clear h
  go_enter Try.func21, Try.ntmps21
  go_wp2
  go_ret
  exact ⟨rfl, rfl⟩
theorem wfree_any (w : World) (F : Nat → Prop) (p g : Nat) (l : Wl.St) (h : LogAt w F p g l) :
    Calls Try.prog 22 #[.pointer (some ⟨p, 0, none⟩)] w fun e w' => e = .returned (.int .i64 ((256 * l.k - (Wl.hv l).length : Nat) : Int)) ∧ Keeps (fun _ => False) w w' := by
  obtain ⟨A, c, h⟩ := h
  have c4 : w.cell? ⟨p, 4, none⟩ = some (.slice A (Wl.hv l).length c) := h.row.cell 4
  have hro := wroom_any w p _ l.k _ h.row h.ok.k2
  have hfit := h.ok.fit
  have hk := h.ok.k2
  obtain ⟨m, hm⟩ : ∃ m, (Wl.hv l).length = m := ⟨_, rfl⟩
  obtain ⟨q, hq⟩ : ∃ q, 256 * l.k = q := ⟨_, rfl⟩
  rw [hm] at c4 hfit ⊢
  rw [hq] at hro hfit ⊢
  have hq2 : q ≤ 8388352 := by omega
  have e1 : IntKind.i64.wrap ((q : Int) - (m : Int)) = ((q - m : Nat) : Int) := by rw [IntWalk.i64_in _ (by omega)]; omega
  have HRO2 : Hid (∀ V, Later w V → Calls Try.prog 41 #[.pointer (some ⟨p, 0, none⟩)] V fun e w' => e = .returned (.int .i64 (q : Int)) ∧ Later w w') := Lib.hid (fun V hV => by
    have hro2 := wroom_any V p _ l.k _ (h.row.keeps hV.out id) h.ok.k2
    rw [hq] at hro2
    exact hro2.mono (fun e w' hh => ⟨hh.1, by rw [hh.2]; exact hV⟩))
  have HC4 : Hid (∀ V, Later w V → V.cell? ⟨p, 4, none⟩ = some (.slice A m c)) := Lib.hid (fun V hV => by rw [← hm]; exact (h.row.keeps hV.out id).cell 4)
  clear h hro hm hq hk
  go_enter Try.func22, Try.ntmps22
  go_wp2_with fail
  refine wp_region_class (Later w) (by kernel_rfl) (by kernel_rfl) (⟨(Keeps.refl _ _).drew⟩) ?_
  refine class_value (by rfl) (.pointer (some ⟨p, 0, none⟩)) (fun V hV => by go_simp) ?_
  simp only [Act.put, List.setIfInBounds_toArray, List.set_cons_zero, List.set_cons_succ]
  refine class_callW (by rfl) _ _ (.int .i64 (q : Int)) (fun _ => by go_simp) (fun V hV => HRO2.out V hV) ?_
  simp only [Act.put, List.setIfInBounds_toArray, List.set_cons_zero, List.set_cons_succ]
  refine class_value (by rfl) (.pointer (some ⟨p, 0, none⟩)) (fun V hV => by go_simp) ?_
  simp only [Act.put, List.setIfInBounds_toArray, List.set_cons_zero, List.set_cons_succ]
  refine class_value (by rfl) (.pointer (some ⟨p, 0, none⟩)) (fun V hV => by go_simp) ?_
  simp only [Act.put, List.setIfInBounds_toArray, List.set_cons_zero, List.set_cons_succ]
  refine class_value (by rfl) (.pointer (some ⟨p, 4, none⟩)) (fun V hV => by go_simp) ?_
  simp only [Act.put, List.setIfInBounds_toArray, List.set_cons_zero, List.set_cons_succ]
  refine class_cell (by rfl) 33 (.tmp 9) (by rfl) ⟨p, 4, none⟩ (by rfl) (.slice A m c) _ (fun V hV => HC4.out V hV) Try.underlying33 rfl ?_
  simp only [Act.put, List.setIfInBounds_toArray, List.set_cons_zero, List.set_cons_succ]
  refine class_value (by rfl) (.int .i64 (m : Int)) (fun V hV => by go_simp) ?_
  simp only [Act.put, List.setIfInBounds_toArray, List.set_cons_zero, List.set_cons_succ]
  refine class_value (by rfl) (.int .i64 ((q - m : Nat) : Int)) (fun V hV => by go_simp) ?_
  simp only [Act.put, List.setIfInBounds_toArray, List.set_cons_zero, List.set_cons_succ]
  refine class_value (by rfl) (.int .i64 ((q - m : Nat) : Int)) (fun V hV => by go_simp) ?_
  simp only [Act.put, List.setIfInBounds_toArray, List.set_cons_zero, List.set_cons_succ]
  refine wpQuiet_nil ?_
  intro V hV
  go_wp2
  go_ret
  exact ⟨rfl, hV.out⟩
theorem wsize_any (w : World) (A : Option Addr) (n c : Nat) (hn : n ≤ 1000000000) :
    Calls Try.prog 29 #[.slice A n c] w fun e w' => e = .returned (.int .i64 ((8 + n : Nat) : Int)) ∧ w' = w := by
  have e1 : IntKind.i64.wrap (8 + (n : Int)) = ((8 + n : Nat) : Int) := by rw [IntWalk.i64_in _ (by omega)]; omega
  obtain ⟨q, hq⟩ : ∃ q, 8 + n = q := ⟨_, rfl⟩
  rw [hq] at e1 ⊢
  clear hn hq
  go_enter Try.func29, Try.ntmps29
  go_wp2
  go_ret
  exact ⟨rfl, rfl⟩
end Go.Proofs.Ytnhegnncmjmafaa
namespace Go.Proofs.Ytnhegnncmjmafaa
open Go.RowKit Go.BigFrame
set_option linter.unusedVariables false

def bsOf (rs : List RowOf) : List Wl.Bs := rs.map fun r => r.2.2
theorem bsOf_take (rs : List RowOf) (i : Nat) (r : RowOf) (h : rs[i]? = some r) : Wl.frames (bsOf (rs.take (i + 1))) = ((Wl.frames (bsOf (rs.take i)) ++ nb (r.2.2.length : Int) 4) ++ nb (ci (Cr.sum r.2.2)) 4) ++ r.2.2 := by
  have hi := (List.getElem?_eq_some_iff.1 h).1
  rw [List.take_succ_eq_append_getElem hi, (List.getElem?_eq_some_iff.1 h).2]
  unfold bsOf
  rw [List.map_append, Wl.frames_append]
  show _ ++ Wl.frames [r.2.2] = _
  rw [Wl.frames_one, List.append_assoc, List.append_assoc]
  rfl
theorem bsOf_le (rs : List RowOf) (i : Nat) : (Wl.frames (bsOf (rs.take i))).length ≤ (Wl.frames (bsOf rs)).length := by
  unfold bsOf
  rw [List.map_take]
  exact Wl.frames_take_le _ _
theorem WrPut.then {b : Nat} {r : Option Nat} {xs ys : List UInt8} {w w1 w2 : World} {e e2 : Ending} {r1 : Option Nat} (hr1 : r1 = r ∨ ∃ q, w.heap.size ≤ q ∧ r1 = some q) (hk1 : Keeps (fun q => q = b ∨ r = some q) w w1) (h : WrPut b r1 ys w1 e2 w2) :
    ∃ r2, Wr w2 b r2 ys ∧ (r2 = r ∨ ∃ q, w.heap.size ≤ q ∧ r2 = some q) ∧ Keeps (fun q => q = b ∨ r = some q) w w2 := by
  obtain ⟨_, r2, h2, h3, h4⟩ := h
  obtain ⟨h5, h6⟩ := wr_trans hr1 hk1 h3 h4
  exact ⟨r2, h2, h5, h6⟩
theorem ci_u64 (x : BitVec 32) : IntKind.u64.wrap (ci x) = ci x := IntWalk.u64_in _ (by have := ci_nonneg x; have := ci_lt x; omega)
set_option maxRecDepth 100000 in
set_option maxHeartbeats 2000000 in
theorem framed_any (A : Option Addr) (c : Nat) (rs : List RowOf) (w : World) (hR : RowsAt w A rs) (hx : (Wl.frames (bsOf rs)).length ≤ 90000000) :
    Calls Try.prog 30 #[.slice A rs.length c] w (Cloned (Wl.frames (bsOf rs)) w) := by
  have hnew := newWriter_any w
  have hwr := newWriter_wr w
  obtain ⟨B, hB⟩ : ∃ b, w.heap.size = b := ⟨_, rfl⟩
  obtain ⟨W1, hW1⟩ : ∃ W, w.alloc (.cells #[.slice none 0 0] 110) = W := ⟨_, rfl⟩
  have k1 : Keeps (fun _ => False) w W1 := by rw [← hW1]; exact (Keeps.refl _ _).alloc _
  rw [hW1, hB] at hnew hwr
  have hn63 : rs.length ≤ 9223372036854775807 := by
    have h1 := Wl.frames_many (bsOf rs)
    unfold bsOf at h1 hx
    rw [List.length_map] at h1
    omega
  have HNEW := Lib.hid hnew
  have HWR := Lib.hid hwr
  have HK1 := Lib.hid k1
  have HR0 := Lib.hid hR
  have HX := Lib.hid hx
  have HB := Lib.hid hB
  clear hnew hwr k1 hR hx hB hW1
  go_enter Try.func30, Try.ntmps30
  go_wp2_with fail
  refine HNEW.out.mono ?_
  rintro e w1 ⟨rfl, h1⟩
  obtain rfl : W1 = w1 := h1
  go_wp2_with fail
  go_loopw [5, 9] (fun _ iv ww => ∃ i : Nat, i ≤ rs.length ∧ iv = .int .i64 i ∧ ∃ r', Wr ww B r' (Wl.frames (bsOf (rs.take i))) ∧ (r' = none ∨ ∃ q, W1.heap.size ≤ q ∧ r' = some q) ∧ Keeps (fun q => q = B ∨ none = some q) W1 ww) (fun _ iv _ => rs.length - (intOf iv).toNat)
  case atStart => exact ⟨0, by omega, rfl, none, by simpa [bsOf, Wl.frames] using HWR.out, .inl rfl, Keeps.refl _ _⟩
  case round =>
    obtain ⟨i, hi, rfl, r', hwr, hr', hkp⟩ := hrel
    by_cases hlt : i < rs.length
    · have hii : (i : Int) < rs.length := by omega
      have hkw : ∀ V, Keeps (fun q => q = B ∨ none = some q) W1 V → Keeps (fun _ => False) w V := fun V hV => HK1.out.trans' hV (fun j hj h => by rcases h with h | h; (have := HB.out; omega); cases h)
      have kww := hkw wr hkp
      have HKW := Lib.hid hkw
      have hRr := HR0.out.keeps kww (fun _ _ => id)
      obtain ⟨r, hr⟩ : ∃ r, rs[i]? = some r := ⟨_, List.getElem?_eq_getElem hlt⟩
      obtain ⟨ad, ha, hc⟩ := hRr.cell i r hr
      subst ha
      have hmem : r ∈ rs := List.mem_of_getElem? hr
      have hsrc := HR0.out.src r hmem
      have hcap := hRr.cap r hmem
      have hfr := bsOf_take rs i r hr
      have hle := bsOf_le rs (i + 1)
      obtain ⟨A1, c1, xs⟩ := r
      simp only at hc hsrc hfr hcap
      obtain ⟨ys, hys⟩ : ∃ ys, Wl.frames (bsOf (rs.take i)) = ys := ⟨_, rfl⟩
      have hlen : ys.length + 8 + xs.length ≤ 90000000 := by
        have := HX.out
        rw [hfr, hys] at hle
        simp only [List.length_append, nb_length] at hle
        omega
      rw [hys] at hwr hfr
      have hn1 := wrNum_ok B r' ys (xs.length : Int) 4 wr hwr (by omega) (by omega) (by omega) (by omega)
      rw [show ((4 : Nat) : Int) = 4 from rfl] at hn1
      have HN1 := Lib.hid hn1
      have HFR := Lib.hid hfr
      have HSRC := Lib.hid hsrc
      have HKP := Lib.hid hkp
      have HR' := Lib.hid hr'
      have HCAP := Lib.hid hcap
      have eu : IntKind.u64.wrap (xs.length : Int) = (xs.length : Int) := IntWalk.u64_in _ (by omega)
      obtain ⟨n, hn⟩ : ∃ n, xs.length = n := ⟨_, rfl⟩
      have HNN := Lib.hid hn
      rw [hn] at eu hc HN1 hlen
      clear hkw hn1 hys hfr hle hmem hr hRr hsrc hkp hr' hwr hn kww hcap
      go_wp2_with fail
      refine HN1.out.mono ?_
      rintro e w2 ⟨rfl, r2, hw2, hr2, hk2⟩
      obtain ⟨hr2, hk2⟩ := wr_trans HR'.out HKP.out hr2 hk2
      obtain ⟨Y, hY⟩ : ∃ Y, w2.heap.size = Y := ⟨_, rfl⟩
      obtain ⟨W3, hW3⟩ : ∃ W, w2.alloc (.cells #[.slice A1 n c1] 33) = W := ⟨_, rfl⟩
      have k3 : Keeps (fun _ => False) w2 W3 := by rw [← hW3]; exact (Keeps.refl _ _).alloc _
      have r3 : Row W3 Y 33 [.slice A1 n c1] := by rw [← hW3, ← hY]; exact heap_alloc_new w2 _
      have k3w := (HKW.out _ hk2).trans k3
      have hcrc := crc_any (some ⟨Y, 0, none⟩) 1 [(A1, c1, xs)] W3 (rowsAt_one (by rw [add_plain, r3.cell]; show some (Value.slice A1 n c1) = _; rw [← HNN.out]) ((HSRC.out).keeps k3w (fun _ _ _ => id)) HCAP.out) (by simp) (by intro r hr; rw [List.mem_singleton] at hr; subst hr; have := HNN.out; show xs.length ≤ _; omega)
      rw [show bytesOf [(A1, c1, xs)] = xs by simp [bytesOf]] at hcrc
      have HCRC : Hid (Calls Try.prog 55 #[.slice (some ⟨Y, 0, none⟩) 1 1] W3 _) := Lib.hid hcrc
      have HK3 := Lib.hid k3
      have HW2 := Lib.hid hw2
      have HR2 := Lib.hid hr2
      have HK2 := Lib.hid hk2
      clear r3 k3w hcrc k3 hw2 hr2 hk2 HN1
      go_wp2_with fail
      refine HCRC.out.mono ?_
      rintro e w4 ⟨rfl, k4⟩
      have hw4 := (HW2.out.keeps HK3.out id (fun _ _ => id)).keeps k4 id (fun _ _ => id)
      have hk4 : Keeps (fun q => q = B ∨ none = some q) W1 w4 := HK2.out.trans ((HK3.out.trans k4).mono (fun _ _ h => h.elim))
      obtain ⟨x, hx0⟩ : ∃ x, Cr.sum xs = x := ⟨_, rfl⟩
      have eu2 := ci_u64 x
      have hn2 := wrNum_ok B r2 (ys ++ nb (n : Int) 4) (ci x) 4 w4 hw4 (ci_nonneg x) (by omega) (by omega) (by rw [List.length_append, nb_length]; omega)
      rw [show ((4 : Nat) : Int) = 4 from rfl] at hn2
      rw [hx0]
      have HX0 := Lib.hid hx0
      have HN2 := Lib.hid hn2
      have HK4 := Lib.hid hk4
      unfold cv
      obtain ⟨z, hz⟩ : ∃ z, ci x = z := ⟨_, rfl⟩
      have HZ := Lib.hid hz
      rw [hz] at eu2 HN2
      rw [hz]
      clear hw4 hk4 k4 hx0 hn2 HCRC HK3 HW2 HK2 hW3 hz
      go_wp2_with fail
      refine HN2.out.mono ?_
      rintro e w5 ⟨rfl, r5, hw5, hr5, hk5⟩
      obtain ⟨hr5, hk5⟩ := wr_trans HR2.out HK4.out hr5 hk5
      have hra := wrRaw_any B r5 ((ys ++ nb (n : Int) 4) ++ nb z 4) xs A1 c1 w5 hw5 ((HSRC.out).keeps (HKW.out _ hk5) (fun _ _ _ => id)) (by rw [List.length_append, List.length_append, nb_length, nb_length, HNN.out]; omega)
      rw [HNN.out] at hra
      have HRA := Lib.hid hra
      have HR5 := Lib.hid hr5
      have HK5 := Lib.hid hk5
      clear hra hr5 hk5 hw5 HN2
      go_wp2_with fail
      refine HRA.out.mono ?_
      rintro e w6 ⟨rfl, r6, hw6, hr6, hk6⟩
      obtain ⟨hr6, hk6⟩ := wr_trans HR5.out HK5.out hr6 hk6
      have he : ((ys ++ nb (n : Int) 4) ++ nb z 4) ++ xs = Wl.frames (bsOf (rs.take (i + 1))) := by rw [HFR.out, HX0.out, HZ.out, HNN.out]
      rw [he] at hw6
      have HALL := Lib.hid (And.intro hw6 (And.intro hr6 hk6))
      clear hw6 hr6 hk6 he HRA
      go_wp2_with fail
      go_roundw
      case rel => exact ⟨i + 1, by omega, by go_num, r6, HALL.out.1, HALL.out.2.1, HALL.out.2.2⟩
      case measure => simp [intOf]; omega
    · have hii : ¬ (i : Int) < (rs.length : Int) := by omega
      have hi' : i = rs.length := by omega
      rw [hi', List.take_length] at hwr
      have kww : Keeps (fun _ => False) w wr := HK1.out.trans' hkp (fun j hj h => by rcases h with h | h; (have := HB.out; omega); cases h)
      have hout := wrOut_any B r' _ wr hwr (by have := HX.out; omega)
      have HOUT := Lib.hid hout
      have HKK := Lib.hid kww
      clear hout hwr kww hkp hr' hi'
      go_wp2_with fail
      refine HOUT.out.mono ?_
      rintro e w2 ⟨A2, c2, rfl, hown, hk⟩
      go_wp2
      go_ret
      exact ⟨A2, c2, rfl, own_base hown HKK.out.size, HKK.out.trans hk⟩
end Go.Proofs.Ytnhegnncmjmafaa
namespace Go.Proofs.Ytnhegnncmjmafaa
open Go.RowKit Go.BigFrame
set_option linter.unusedVariables false
/-- Behind w a Writer that was made there at B has put xs. -/
def WS (w : World) (B : Nat) (xs : List UInt8) (ww : World) : Prop := ∃ r', Wr ww B r' xs ∧ (r' = none ∨ ∃ q, w.heap.size ≤ q ∧ r' = some q) ∧ Keeps (fun q => q = B ∨ none = some q) w ww
theorem WS.later {w : World} {B : Nat} {xs : List UInt8} {a b : World} (h : WS w B xs a) (hk : Keeps (fun _ => False) a b) : WS w B xs b := by
  obtain ⟨r, h1, h2, h3⟩ := h
  exact ⟨r, h1.keeps hk id (fun _ _ => id), h2, h3.trans (hk.mono (fun _ _ h => h.elim))⟩
theorem WS.kept {w w0 : World} {B : Nat} {xs : List UInt8} {a : World} (h : WS w B xs a) (h0 : Keeps (fun _ => False) w0 w) (hB : w0.heap.size ≤ B) : Keeps (fun _ => False) w0 a := by
  obtain ⟨r, h1, h2, h3⟩ := h
  exact h0.trans' h3 (fun j hj h => by rcases h with h | h; omega; cases h)
theorem ws_new (w : World) : WS (w.alloc (.cells #[.slice none 0 0] 110)) w.heap.size [] (w.alloc (.cells #[.slice none 0 0] 110)) := ⟨none, newWriter_wr w, .inl rfl, Keeps.refl _ _⟩
theorem ws_num {w : World} {B : Nat} {xs : List UInt8} {ww : World} (h : WS w B xs ww) (x : Int) (n : Nat) (hx0 : 0 ≤ x) (hn : 1 ≤ n) (hn8 : n ≤ 8) (hx : xs.length ≤ 99999000) :
    Calls Try.prog 57 #[.pointer (some ⟨B, 0, none⟩), .int .u64 x, .int .i64 n] ww fun e w' => e = .returned (.tuple #[]) ∧ WS w B (xs ++ nb x n) w' := by
  obtain ⟨r, h1, h2, h3⟩ := h
  refine (wrNum_ok B r xs x n ww h1 hx0 hn hn8 hx).mono ?_
  rintro e w' ⟨rfl, r2, h4, h5, h6⟩
  obtain ⟨h5, h6⟩ := wr_trans h2 h3 h5 h6
  exact ⟨rfl, r2, h4, h5, h6⟩
theorem ws_raw {w : World} {B : Nat} {xs : List UInt8} {ww : World} (h : WS w B xs ww) (A : Option Addr) (c : Nat) (ys : List UInt8) (hs : Src ww A (bvs ys)) (hx : xs.length + ys.length ≤ 100000000) :
    Calls Try.prog 58 #[.pointer (some ⟨B, 0, none⟩), .slice A ys.length c] ww fun e w' => e = .returned (.tuple #[]) ∧ WS w B (xs ++ ys) w' := by
  obtain ⟨r, h1, h2, h3⟩ := h
  refine (wrRaw_any B r xs ys A c ww h1 hs hx).mono ?_
  rintro e w' ⟨rfl, r2, h4, h5, h6⟩
  obtain ⟨h5, h6⟩ := wr_trans h2 h3 h5 h6
  exact ⟨rfl, r2, h4, h5, h6⟩
theorem ws_out {w : World} {B : Nat} {xs : List UInt8} {ww : World} (h : WS w B xs ww) (hx : xs.length ≤ 100000000) : Calls Try.prog 59 #[.pointer (some ⟨B, 0, none⟩)] ww (Cloned xs ww) := by
  obtain ⟨r, h1, _⟩ := h
  exact wrOut_any B r xs ww h1 hx
def scells (t a n : Nat) : List Value := [.int .u64 (t : Int), .int .i64 (a : Int), .int .i64 (n : Int)]
theorem zeros235 (V : World) : (Instr.makeSlice 33 (.int .i64 235) (.int .i64 235)).run Try.prog V = .ok (.slice (some ⟨V.heap.size, 0, none⟩) 235 235) (V.alloc (.cells (bvs (List.replicate 235 0)).toArray 5)) := make_zeros 235 (by omega) V
set_option maxRecDepth 100000 in
set_option maxHeartbeats 2000000 in
theorem sbytes_any (t a n : Nat) (w : World) (ht : t < 18446744073709551616) (ha : a < 256) (hn : n ≤ 90000000) :
    Calls Try.prog 39 #[.agg #[.int .u64 (t : Int), .int .i64 (a : Int), .int .i64 (n : Int)]] w (Cloned (Wl.sup t a n) w) := by
  obtain ⟨Y, hY⟩ : ∃ b, w.heap.size = b := ⟨_, rfl⟩
  obtain ⟨W1, hW1⟩ : ∃ W, w.alloc (.cells #[.int .u64 (t : Int), .int .i64 (a : Int), .int .i64 (n : Int)] 64) = W := ⟨_, rfl⟩
  have k1 : Keeps (fun _ => False) w W1 := by rw [← hW1]; exact (Keeps.refl _ _).alloc _
  have r1 : Row W1 Y 64 (scells t a n) := by rw [← hW1, ← hY]; exact heap_alloc_new w _
  obtain ⟨B, hB⟩ : ∃ b, W1.heap.size = b := ⟨_, rfl⟩
  have hnew := newWriter_any W1
  have hws := ws_new W1
  obtain ⟨W2, hW2⟩ : ∃ W, W1.alloc (.cells #[.slice none 0 0] 110) = W := ⟨_, rfl⟩
  have k2 : Keeps (fun _ => False) W1 W2 := by rw [← hW2]; exact (Keeps.refl _ _).alloc _
  rw [hW2, hB] at hnew hws
  have hYB : Y < B := by rw [← hB]; exact r1.lt
  have hBw : w.heap.size ≤ B := by omega
  have hcells : ∀ V xs, WS W2 B xs V → V.cell? ⟨Y, 0, none⟩ = some (.int .u64 (t : Int)) ∧ V.cell? ⟨Y, 1, none⟩ = some (.int .i64 (a : Int)) ∧ V.cell? ⟨Y, 2, none⟩ = some (.int .i64 (n : Int)) := fun V xs hV => by
    obtain ⟨r, _, _, h3⟩ := hV
    have hr := (r1.keeps k2 id).keeps h3 (fun e => by rcases e with e | e; omega; cases e)
    exact ⟨hr.cell 0, hr.cell 1, hr.cell 2⟩
  have hkw : ∀ V xs, WS W2 B xs V → Keeps (fun _ => False) w V := fun V xs hV => hV.kept (k1.trans k2) hBw
  have ea : IntKind.u64.wrap (a : Int) = (a : Int) := IntWalk.u64_in _ (by omega)
  have en : IntKind.u64.wrap (n : Int) = (n : Int) := IntWalk.u64_in _ (by omega)
  have hmk := fun V => zeros235 V
  have c1 : W2.cell? ⟨Y, 0, none⟩ = some (.int .u64 (t : Int)) := (hcells _ _ hws).1
  have HNEW := Lib.hid hnew
  have hn1 := ws_num hws (t : Int) 8 (by omega) (by omega) (by omega) (by simp)
  rw [show ((8 : Nat) : Int) = 8 from rfl, List.nil_append] at hn1
  have HN1 := Lib.hid hn1
  have HC := Lib.hid hcells
  have HK := Lib.hid hkw
  have hsup : (((nb (t : Int) 8 ++ nb (a : Int) 1) ++ nb (n : Int) 4) ++ List.replicate 235 0) ++ nb (t : Int) 8 = Wl.sup t a n := by unfold Wl.sup; simp only [List.append_assoc]
  have HS := Lib.hid hsup
  clear hws hnew hn1 hcells hkw hsup k1 r1 k2 hB hYB hBw hW2
  go_enter Try.func39, Try.ntmps39
  go_wp2_with fail
  try rw [hW1]
  refine HNEW.out.mono ?_
  rintro e wx ⟨rfl, hx⟩
  obtain rfl : W2 = wx := hx
  clear HNEW hW1
  go_wp2_with fail
  refine HN1.out.mono ?_
  rintro e w3 ⟨rfl, h3⟩
  have c3 : w3.cell? ⟨Y, 1, none⟩ = some (.int .i64 (a : Int)) := (HC.out w3 _ h3).2.1
  have hn2 := ws_num h3 (a : Int) 1 (by omega) (by omega) (by omega) (by simp [nb_length])
  rw [show ((1 : Nat) : Int) = 1 from rfl] at hn2
  have HN2 := Lib.hid hn2
  clear HN1 hn2 h3 c1
  go_wp2_with fail
  refine HN2.out.mono ?_
  rintro e w4 ⟨rfl, h4⟩
  have c4 : w4.cell? ⟨Y, 2, none⟩ = some (.int .i64 (n : Int)) := (HC.out w4 _ h4).2.2
  have hn3 := ws_num h4 (n : Int) 4 (by omega) (by omega) (by omega) (by simp [nb_length])
  rw [show ((4 : Nat) : Int) = 4 from rfl] at hn3
  have HN3 := Lib.hid hn3
  clear HN2 hn3 h4 c3
  go_wp2_with fail
  refine HN3.out.mono ?_
  rintro e w5 ⟨rfl, h5⟩
  obtain ⟨ZL, hZL⟩ : ∃ L, List.replicate 235 (0 : UInt8) = L := ⟨_, rfl⟩
  have hzl : ZL.length = 235 := by rw [← hZL, List.length_replicate]
  rw [hZL] at hmk HS
  obtain ⟨C, hC⟩ : ∃ C, (bvs ZL).toArray = C := ⟨_, rfl⟩
  rw [hC] at hmk
  obtain ⟨W6, hW6⟩ : ∃ W, w5.alloc (.cells C 5) = W := ⟨_, rfl⟩
  have k6 : Keeps (fun _ => False) w5 W6 := by rw [← hW6]; exact (Keeps.refl _ _).alloc _
  have r6 : Row W6 w5.heap.size 5 (bvs ZL) := by rw [← hW6, ← hC]; exact heap_alloc_new w5 _
  have hra := ws_raw (h5.later k6) (some ⟨w5.heap.size, 0, none⟩) 235 ZL r6.src (by simp [nb_length, hzl])
  rw [hzl] at hra
  obtain ⟨Z, hZ⟩ : ∃ b, w5.heap.size = b := ⟨_, rfl⟩
  rw [hZ] at hra
  have HRA : Hid (Calls Try.prog 58 #[.pointer (some ⟨B, 0, none⟩), .slice (some ⟨Z, 0, none⟩) 235 235] W6 _) := Lib.hid hra
  have HZL := Lib.hid hzl
  clear HN3 hra h5 c4 k6 r6 hZL hzl hC
  go_wp2_with fail
  try rw [hW6]
  refine HRA.out.mono ?_
  rintro e w7 ⟨rfl, h7⟩
  have c7 : w7.cell? ⟨Y, 0, none⟩ = some (.int .u64 (t : Int)) := (HC.out w7 _ h7).1
  have hn4 := ws_num h7 (t : Int) 8 (by omega) (by omega) (by omega) (by simp [nb_length, HZL.out])
  rw [show ((8 : Nat) : Int) = 8 from rfl, HS.out] at hn4
  have HN4 := Lib.hid hn4
  clear HRA hn4 h7 hW6 hmk
  go_wp2_with fail
  refine HN4.out.mono ?_
  rintro e w8 ⟨rfl, h8⟩
  have hout := ws_out h8 (by rw [Wl.sup_length]; omega)
  have HKK := Lib.hid (HK.out w8 _ h8)
  have HOUT := Lib.hid hout
  clear hout h8 HN4
  go_wp2_with fail
  refine HOUT.out.mono ?_
  rintro e w9 ⟨A2, c2, rfl, hown, hk⟩
  go_wp2
  go_ret
  exact ⟨A2, c2, rfl, own_base hown HKK.out.size, HKK.out.trans hk⟩
theorem place_any (t a n : Nat) (w : World) (ht : t < 18446744073709551616) :
    Calls Try.prog 38 #[.agg #[.int .u64 (t : Int), .int .i64 (a : Int), .int .i64 (n : Int)]] w fun e w' => e = .returned (.int .i64 ((t % 2 : Nat) : Int)) ∧ Keeps (fun _ => False) w w' := by
  have e1 : IntKind.i64.wrap ((t : Int) % 2) = ((t % 2 : Nat) : Int) := by rw [IntWalk.i64_in _ (by omega)]; omega
  obtain ⟨q, hq⟩ : ∃ q, t % 2 = q := ⟨_, rfl⟩
  rw [hq] at e1 ⊢
  have hk : Keeps (fun _ => False) w (w.alloc (.cells #[.int .u64 (t : Int), .int .i64 (a : Int), .int .i64 (n : Int)] 64)) := (Keeps.refl _ _).alloc _
  have HKK := Lib.hid hk
  clear hk hq ht
  go_enter Try.func38, Try.ntmps38
  go_wp2
  go_ret
  exact ⟨rfl, HKK.out⟩
end Go.Proofs.Ytnhegnncmjmafaa
namespace Go.Proofs.Ytnhegnncmjmafaa
open Go.RowKit Go.BigFrame
set_option linter.unusedVariables false

theorem rnum_cut (b : List UInt8) (n : Nat) (h : n ≤ b.length) (h1 : 1 ≤ n) (h8 : n ≤ 8) : rnum n (b, 0) = ((b.drop n, 0), be (b.take n)) := by
  have hb : (decide (1 ≤ (n : Int)) && decide ((n : Int) ≤ 8)) = true := by simp; omega
  unfold rnum
  rw [if_pos hb, Int.toNat_natCast]
  unfold tk
  rw [if_pos rfl, if_neg (by show ¬ b.length < n; omega)]
namespace Wl
def pT (b : Bs) : Nat := (be (b.take 8)).toNat
def pA (b : Bs) : Nat := (be ((b.drop 8).take 1)).toNat
def pN (b : Bs) : Nat := (be (((b.drop 8).drop 1).take 4)).toNat
def fits (room : Nat) (b : Bs) : Prop := 0 < pT b ∧ pA b < 2 ∧ pN b ≤ room
def counts (room : Nat) (b : Bs) : Prop := fits room b ∧ b = sup (pT b) (pA b) (pN b)
theorem pT_lt (b : Bs) : pT b < 18446744073709551616 := by
  have := be_lt (b.take 8) 8 (by rw [List.length_take]; omega)
  have h0 := be_nonneg (b.take 8)
  have e : (256 : Int) ^ 8 = 18446744073709551616 := by decide
  rw [e] at this
  unfold pT; omega
theorem pA_lt (b : Bs) : pA b < 256 := by
  have := be_lt ((b.drop 8).take 1) 1 (by rw [List.length_take]; omega)
  have h0 := be_nonneg ((b.drop 8).take 1)
  have e : (256 : Int) ^ 1 = 256 := by decide
  rw [e] at this
  unfold pA; omega
theorem pN_lt (b : Bs) : pN b < 4294967296 := by
  have := be_lt (((b.drop 8).drop 1).take 4) 4 (by rw [List.length_take]; omega)
  have h0 := be_nonneg (((b.drop 8).drop 1).take 4)
  have e : (256 : Int) ^ 4 = 4294967296 := by decide
  rw [e] at this
  unfold pN; omega
end Wl
theorem results_cell_tmp12 {P : Program} {fn : Func} {p u : Tmp} {ty : TypeId} (h : fn.results = #[.cell p ty, .tmp u]) (tmps : Array Value) (w : World) (g : Nat) (t : TypeId) (cs : Array Value) (fr : Nat × Nat) (d : TypeDesc)
    (hp : tmps.getD p undef = .pointer (some ⟨g, 0, none⟩)) (hg : w.heap[g]? = some (.cells cs t fr))
    (hu : P.underlying ty = some d) (hd : (match d with | .struct _ | .array _ _ => true | _ => false) = true) (hi : (P.info? ty).map (·.size) = some cs.size) :
    (results fn tmps).run P w = .ok (.tuple #[.agg cs, tmps.getD u undef]) w := by
  have hp' : tmps[p]?.getD undef = .pointer (some ⟨g, 0, none⟩) := by simpa using hp
  simp [results, h, hp', asAddr, run_loadVar_row w g t ty cs fr d hg hu hd hi]
theorem size_super : (Try.prog.info? 64).map (·.size) = some 3 := by kernel_rfl
theorem zero_super (w : World) : (zeroValue 64).run Try.prog w = .ok (.agg (scells 0 0 0).toArray) w := by kernel_rfl
theorem build_super (t a n : Int) (V : World) : (Instr.build 64 #[(0, .int .u64 t), (1, .int .i64 a), (2, .int .i64 n)]).run Try.prog V = .ok (.agg #[.int .u64 t, .int .i64 a, .int .i64 n]) V := by kernel_rfl
theorem scells_all (t a n : Nat) : (scells t a n).toArray.all (·.oneCell') = true := by unfold scells; simp [Value.oneCell']
theorem scells_size (t a n : Nat) : (scells t a n).toArray.size = 3 := rfl
/-- Behind the reading: the super lies at b7, the result's place is q0. -/
structure SupAt (W8 : World) (A : Option Addr) (b : List UInt8) (q0 b7 : Nat) (t a n : Nat) : Prop where
  src : Src W8 A (bvs b)
  r7 : Row W8 b7 64 (scells t a n)
  r0 : Row W8 q0 64 (scells 0 0 0)
set_option maxRecDepth 100000 in
set_option maxHeartbeats 4000000 in
theorem superOf_any (A : Option Addr) (c : Nat) (b : List UInt8) (room : Nat) (w : World) (hs : Src w A (bvs b)) (hb : b.length = 256) (hroom : room ≤ 90000000) :
    Calls Try.prog 48 #[.slice A 256 c, .int .i64 (room : Int)] w fun e w' => ∃ q, e = .returned (.tuple #[.agg (scells (Wl.pT b) (Wl.pA b) (Wl.pN b)).toArray, .bool q]) ∧ (q = true ↔ Wl.counts room b) ∧ Keeps (fun _ => False) w w' := by
  obtain ⟨Z, hZ⟩ : ∃ Z, (scells 0 0 0).toArray = Z := ⟨_, rfl⟩
  have hz : ∀ V : World, (zeroValue 64).run Try.prog V = .ok (.agg Z) V := fun V => by rw [← hZ]; exact zero_super V
  obtain ⟨q0, hq0⟩ : ∃ b, w.heap.size = b := ⟨_, rfl⟩
  obtain ⟨W1, hW1⟩ : ∃ W, w.alloc (.cells Z 64) = W := ⟨_, rfl⟩
  have k1 : Keeps (fun _ => False) w W1 := by rw [← hW1]; exact (Keeps.refl _ _).alloc _
  have r1 : Row W1 q0 64 (scells 0 0 0) := by rw [← hW1, ← hq0, ← hZ]; exact heap_alloc_new w _
  have hnr := newReader_any A c b W1 (hs.keeps k1 (fun _ _ _ => id)) (by omega)
  rw [hb] at hnr
  have HNR := Lib.hid hnr
  have HK1 := Lib.hid k1
  have R1 := Lib.hid r1
  have HS := Lib.hid hs
  have HZ := Lib.hid hZ
  have HB := Lib.hid hb
  clear hnr k1 r1 hs hZ hb
  obtain ⟨t, ht⟩ : ∃ t, Wl.pT b = t := ⟨_, rfl⟩
  obtain ⟨a, ha⟩ : ∃ t, Wl.pA b = t := ⟨_, rfl⟩
  obtain ⟨n, hn⟩ : ∃ t, Wl.pN b = t := ⟨_, rfl⟩
  have hta := Wl.pT_lt b
  have haa := Wl.pA_lt b
  have hna := Wl.pN_lt b
  rw [ht] at hta
  rw [ha] at haa
  rw [hn] at hna
  have ea : IntKind.i64.wrap (a : Int) = (a : Int) := IntWalk.i64_in _ (by omega)
  have en : IntKind.i64.wrap (n : Int) = (n : Int) := IntWalk.i64_in _ (by omega)
  have HT := Lib.hid (And.intro ht (And.intro ha hn))
  have HTA := Lib.hid (And.intro hta (And.intro haa hna))
  rw [ht, ha, hn]
  clear ht ha hn hta haa hna
  go_enter Try.func48, Try.ntmps48
  go_wp2_with fail
  refine HNR.out.mono ?_
  rintro e w2 ⟨B, r, rfl, hB, hr, hrd, k2⟩
  have hn1 := rdNum_any B r 8 (b, 0) w2 hrd
  rw [show (8 : Int) = ((8 : Nat) : Int) from rfl, rnum_cut b 8 (by rw [HB.out]; omega) (by omega) (by omega), show be (b.take 8) = ((t : Nat) : Int) by rw [← HT.out.1]; unfold Wl.pT; have := be_nonneg (b.take 8); omega] at hn1
  rw [show ((8 : Nat) : Int) = 8 from rfl] at hn1
  have HN1 := Lib.hid hn1
  have HBS : Hid (q0 < B ∧ ∀ k, r = some k → q0 < k) := Lib.hid (by
    have := R1.out.lt
    exact ⟨by omega, fun k hk => by have := hr k hk; omega⟩)
  have R2 := Lib.hid (R1.out.keeps k2 id)
  have HK2 := Lib.hid (HK1.out.trans k2)
  clear HNR hn1 hB hr hrd k2 R1 HK1
  go_wp2_with fail
  refine HN1.out.mono ?_
  rintro e w3 ⟨rfl, hrd, k3⟩
  have hn2 := rdNum_any B r 1 (b.drop 8, 0) w3 hrd
  rw [show (1 : Int) = ((1 : Nat) : Int) from rfl, rnum_cut (b.drop 8) 1 (by rw [List.length_drop, HB.out]; omega) (by omega) (by omega), show be ((b.drop 8).take 1) = ((Wl.pA b : Nat) : Int) by unfold Wl.pA; have := be_nonneg ((b.drop 8).take 1); omega] at hn2
  rw [show ((1 : Nat) : Int) = 1 from rfl] at hn2
  have HN2 := Lib.hid hn2
  have R3 := Lib.hid (R2.out.keeps k3 (fun e => by have := HBS.out.1; omega))
  have HK3 : Hid (Keeps (fun _ => False) w w3) := Lib.hid (HK2.out.trans' k3 (fun i hi e => by have := HBS.out.1; omega))
  clear HN1 hn2 hrd k3 R2 HK2
  rw [HT.out.2.1] at HN2
  go_wp2_with fail
  refine HN2.out.mono ?_
  rintro e w4 ⟨rfl, hrd, k4⟩
  have hn3 := rdNum_any B r 4 ((b.drop 8).drop 1, 0) w4 hrd
  rw [show (4 : Int) = ((4 : Nat) : Int) from rfl, rnum_cut ((b.drop 8).drop 1) 4 (by rw [List.length_drop, List.length_drop, HB.out]; omega) (by omega) (by omega), show be (((b.drop 8).drop 1).take 4) = ((n : Nat) : Int) by rw [← HT.out.2.2]; unfold Wl.pN; have := be_nonneg (((b.drop 8).drop 1).take 4); omega] at hn3
  rw [show ((4 : Nat) : Int) = 4 from rfl] at hn3
  have HN3 := Lib.hid hn3
  have R4 := Lib.hid (R3.out.keeps k4 (fun e => by have := HBS.out.1; omega))
  have HK4 : Hid (Keeps (fun _ => False) w w4) := Lib.hid (HK3.out.trans' k4 (fun i hi e => by have := HBS.out.1; omega))
  clear HN2 hn3 hrd k4 R3 HK3
  go_wp2_with fail
  refine HN3.out.mono ?_
  rintro e w5 ⟨rfl, hrd, k5⟩
  have r5 := R4.out.keeps k5 (fun e => by have := HBS.out.1; omega)
  have hk5 : Keeps (fun _ => False) w w5 := HK4.out.trans' k5 (fun i hi e => by have := HBS.out.1; omega)
  obtain ⟨b7, hb7⟩ : ∃ b, w5.heap.size = b := ⟨_, rfl⟩
  obtain ⟨W6, hW6⟩ : ∃ W, w5.alloc (.cells Z 64) = W := ⟨_, rfl⟩
  have k6 : Keeps (fun _ => False) w5 W6 := by rw [← hW6]; exact (Keeps.refl _ _).alloc _
  have r6 : W6.heap[b7]? = some (.cells Z 64 (0, 0)) := by rw [← hW6, ← hb7]; exact heap_alloc_new w5 _
  obtain ⟨CS, hCS⟩ : ∃ C : Array Value, #[.int .u64 (t : Int), .int .i64 (a : Int), .int .i64 (n : Int)] = C := ⟨_, rfl⟩
  obtain ⟨W8, hW8⟩ : ∃ W, W6.setRow b7 CS = W := ⟨_, rfl⟩
  have k8 : Keeps (fun k => k = b7) W6 W8 := by rw [← hW8]; exact Keeps.setRow _ _
  have r8 : Row W8 b7 64 (scells t a n) := by rw [← hW8]; have := setRow_heap W6 b7 Z CS _ _ r6; rw [← hCS] at this; rw [← hCS]; exact this
  have kk8 : Keeps (fun _ => False) w W8 := (hk5.trans k6).trans' k8 (fun i hi e => by have := hk5.size; omega)
  have hq7 : q0 < b7 := by have := r5.lt; omega
  have hat : SupAt W8 A b q0 b7 t a n := ⟨HS.out.keeps kk8 (fun _ _ _ => id), r8, (r5.keeps k6 id).keeps k8 (fun e => by omega)⟩
  have SCS : Hid ((Try.prog.info? 64).map (·.size) = some CS.size) := Lib.hid (by rw [← hCS]; exact size_super)
  have SCZ : Hid (Z.size = CS.size) := Lib.hid (by rw [← hCS, ← HZ.out]; rfl)
  have OCS : Hid (CS.all (·.oneCell') = true) := Lib.hid (by rw [← hCS]; exact scells_all t a n)
  have HR6 := Lib.hid r6
  have HAT := Lib.hid hat
  have HQ7 := Lib.hid hq7
  have KK8 := Lib.hid kk8
  have HCS := Lib.hid hCS
  clear r5 hk5 k5 k6 r6 k8 r8 kk8 hq7 hat hrd HN3 R4 HK4 HBS
  have HBC : Hid (∀ V : World, (Instr.build 64 #[(0, .int .u64 (t : Int)), (1, .int .i64 (a : Int)), (2, .int .i64 (n : Int))]).run Try.prog V = .ok (.agg CS) V) := Lib.hid (fun V => by rw [← hCS]; exact build_super _ _ _ V)
  have HR7L : Hid (∀ V, Keeps (fun k => k = q0) W8 V → V.rangeAt b7 0 (scells t a n)) := Lib.hid (fun V hV => rangeAt_row (HAT.out.r7.keeps hV (fun e => by have := HQ7.out; omega)))
  have SCL : Hid ((Try.prog.info? 64).map (·.size) = some (scells t a n).length) := Lib.hid size_super
  have HR0Z : Hid (W8.heap[q0]? = some (.cells Z 64 (0, 0))) := Lib.hid (by rw [← HZ.out]; exact HAT.out.r0)
  have SCZ2 : Hid (Z.size = (scells t a n).toArray.size) := Lib.hid (by rw [← HZ.out]; rfl)
  have HKW : Hid (∀ V, Keeps (fun k => k = q0) W8 V → Keeps (fun _ => False) w V) := Lib.hid (fun V hV => KK8.out.trans' hV (fun i hi e => by omega))
  have c0 : W8.cell? ⟨b7, 0, none⟩ = some (.int .u64 (t : Int)) := HAT.out.r7.cell 0
  have c1 : W8.cell? ⟨b7, 1, none⟩ = some (.int .i64 (a : Int)) := HAT.out.r7.cell 1
  have c2 : W8.cell? ⟨b7, 2, none⟩ = some (.int .i64 (n : Int)) := HAT.out.r7.cell 2
  have ft : Wl.fits room b ↔ (0 < t ∧ a < 2 ∧ n ≤ room) := by unfold Wl.fits; rw [HT.out.1, HT.out.2.1, HT.out.2.2]
  have FT := Lib.hid ft
  obtain ⟨q, hq⟩ : ∃ q, (b == Wl.sup t a n) = q := ⟨_, rfl⟩
  have HQ := Lib.hid hq
  have hfc : Wl.fits room b → (q = true ↔ Wl.counts room b) := fun hf => by
    unfold Wl.counts
    rw [HT.out.1, HT.out.2.1, HT.out.2.2, ← HQ.out, beq_iff_eq]
    exact ⟨fun h => ⟨hf, h⟩, fun h => h.2⟩
  have HFC := Lib.hid hfc
  have HSB : Hid (n ≤ room → ∀ V, Keeps (fun k => k = q0) W8 V → V.heap[q0]? = some (.cells Z 64 (0, 0)) → Calls Try.prog 39 #[.agg (scells t a n).toArray] V fun e w' => ∃ x : Option Addr × Nat, e = .returned (.slice x.1 256 x.2) ∧ Keeps (fun k => k = q0) W8 w' ∧ w'.heap[q0]? = some (.cells Z 64 (0, 0)) ∧ Src w' x.1 (bvs (Wl.sup t a n))) := Lib.hid (fun hnr V hV hz => by
    refine (sbytes_any t a n V HTA.out.1 HTA.out.2.1 (by omega)).mono ?_
    rintro e w' ⟨A', c', rfl, hown, hk⟩
    rw [Wl.sup_length] at hown ⊢
    exact ⟨(A', c'), rfl, hV.trans (hk.mono (fun _ _ h => h.elim)), Lasts.block _ _ _ _ hz hk, Src.of_own hown⟩)
  have HEQ : Hid (∀ V A5 c5, Keeps (fun k => k = q0) W8 V → V.heap[q0]? = some (.cells Z 64 (0, 0)) → Src V A5 (bvs (Wl.sup t a n)) → Calls Try.prog 64 #[.slice A 256 c, .slice A5 256 c5] V fun e w' => e = .returned (.bool q) ∧ Keeps (fun k => k = q0) W8 w' ∧ w'.heap[q0]? = some (.cells Z 64 (0, 0))) := Lib.hid (fun V A5 c5 hV hz hs5 => by
    have h := equal_any A A5 c c5 b (Wl.sup t a n) V (HS.out.keeps (HKW.out V hV) (fun _ _ _ => id)) hs5
    rw [HB.out, Wl.sup_length, HQ.out] at h
    refine h.mono ?_
    rintro e w' ⟨h1, rfl⟩
    exact ⟨h1, hV, hz⟩)
  clear hq hfc
  have hw8 := hW8
  clear hCS ft hW8
  by_cases hn : n ≤ room
  all_goals
    first
    | (have hnd : decide ((n : Int) ≤ (room : Int)) = true := by simp; omega)
    | (have hnd : decide ((n : Int) ≤ (room : Int)) = false := by simp; omega)
    go_wp2_with (first
      | (refine wpList_made (by rfl) 64 [(0, .tmp 12), (1, .tmp 15), (2, .tmp 18)] (by rfl) [(0, .int .u64 (t : Int)), (1, .int .i64 (a : Int)), (2, .int .i64 (n : Int))] (by rfl) (.agg CS) HBC.out ?_)
      | (refine wpList_store_row (by rfl) 64 _ _ (by rfl) b7 CS (by rfl) (by rfl) 64 Z HR6.out SCS.out SCZ.out OCS.out ?_; rw [hw8]))
  all_goals
    by_cases hf : 0 < t ∧ a < 2 ∧ n ≤ room
    · first
        | (exfalso; omega)
        | (skip
           have HSB2 := Lib.hid (HSB.out hf.2.2)
           go_wp2_with fail
           refine wp_region_stores 10 [5, 6, 8] [0, 1, 2, 3, 4, 5, 6, 7, 8, 9] (fun V => Keeps (fun k => k = q0) W8 V) (fun V => V.heap[q0]? = some (.cells Z 64 (0, 0))) (by kernel_rfl) (by kernel_rfl) (fun _ _ h k => h.trans' k (fun _ _ h => h.elim)) (Lasts.block _ _) ((Keeps.refl _ _).drew) (HR0Z.out) ?_
           refine T_load (get_op rfl) (by rfl) (by rfl) 64 (.tmp 7) (by rfl) b7 0 (by rfl) (scells t a n) _ (fun V hV => HR7L.out V hV) Try.underlying64 rfl SCL.out ?_
           simp only [Act.put, List.setIfInBounds_toArray, List.set_cons_zero, List.set_cons_succ]
           refine T_value (get_op rfl) (by rfl) (by rfl) (.bool true) (fun _ _ => by go_simp) ?_
           simp only [Act.put, List.setIfInBounds_toArray, List.set_cons_zero, List.set_cons_succ]
           refine T_value (get_op rfl) (by rfl) (by rfl) (.bool true) (fun _ _ => by go_simp) ?_
           simp only [Act.put, List.setIfInBounds_toArray, List.set_cons_zero, List.set_cons_succ]
           refine T_value (get_op rfl) (by rfl) (by rfl) (.slice A 256 c) (fun _ _ => by go_simp) ?_
           simp only [Act.put, List.setIfInBounds_toArray, List.set_cons_zero, List.set_cons_succ]
           refine T_load (get_op rfl) (by rfl) (by rfl) 64 (.tmp 7) (by rfl) b7 0 (by rfl) (scells t a n) _ (fun V hV => HR7L.out V hV) Try.underlying64 rfl SCL.out ?_
           simp only [Act.put, List.setIfInBounds_toArray, List.set_cons_zero, List.set_cons_succ]
           refine T_enterR (get_op rfl) (by rfl) (by rfl) _ _ (fun x : Option Addr × Nat => .slice x.1 256 x.2) (fun x y h => by cases x; cases y; simp at h; simp [h]) (fun _ => by go_simp) (fun x V => V.heap[q0]? = some (.cells Z 64 (0, 0)) ∧ Src V x.1 (bvs (Wl.sup t a n))) (fun x w w' h hk => ⟨Lasts.block _ _ _ _ h.1 hk, h.2.keeps hk (fun _ _ _ => id)⟩) (fun V hb hf => HSB2.out V hb hf) ?_
           intro x5
           simp only [Act.put, List.setIfInBounds_toArray, List.set_cons_zero, List.set_cons_succ]
           refine T_enter (get_op rfl) (by rfl) (by rfl) _ _ (.bool q) (fun _ => by go_simp) (fun V => V.heap[q0]? = some (.cells Z 64 (0, 0))) (Lasts.block _ _) (fun V hb hf => HEQ.out V x5.1 x5.2 hb hf.1 hf.2) ?_
           simp only [Act.put, List.setIfInBounds_toArray, List.set_cons_zero, List.set_cons_succ]
           refine T_value (get_op rfl) (by rfl) (by rfl) (.bool q) (fun _ _ => by go_simp) ?_
           simp only [Act.put, List.setIfInBounds_toArray, List.set_cons_zero, List.set_cons_succ]
           refine T_store (get_op rfl) (by rfl) (by rfl) 64 (.tmp 4) (.tmp 34) (by rfl) (by rfl) q0 (by rfl) (scells t a n).toArray Z (by rfl) 64 size_super SCZ2.out (scells_all t a n) (fun V => V.heap[q0]? = some (.cells (scells t a n).toArray 64 (0, 0))) (Lasts.block _ _) (fun V hb hf => ⟨hf, hb.trans (Keeps.setRow _ _), setRow_heap _ _ _ _ _ _ hf⟩) ?_
           refine T_value (get_op rfl) (by rfl) (by rfl) (.bool q) (fun _ _ => by go_simp) ?_
           simp only [Act.put, List.setIfInBounds_toArray, List.set_cons_zero, List.set_cons_succ]
           refine T_nil ?_
           intro V9 k9 f9
           simp only [List.drop_succ_cons, List.drop_zero]
           go_wp2_with fail
           refine bodyPost_ret (results_cell_tmp12 rfl _ _ q0 64 (scells t a n).toArray (0, 0) _ rfl f9 Try.underlying64 rfl size_super) rfl ?_
           exact ⟨q, rfl, HFC.out (FT.out.2 hf), HKW.out V9 k9⟩)
    · first
        | (exfalso; omega)
        | (skip
           go_wp2_with fail
           refine wp_region_stores 10 [8] [0, 1, 2, 3, 4, 5, 6, 7, 8, 9] (fun V => Keeps (fun k => k = q0) W8 V) (fun V => V.heap[q0]? = some (.cells Z 64 (0, 0))) (by kernel_rfl) (by kernel_rfl) (fun _ _ h k => h.trans' k (fun _ _ h => h.elim)) (Lasts.block _ _) ((Keeps.refl _ _).drew) (HR0Z.out) ?_
           refine T_load (get_op rfl) (by rfl) (by rfl) 64 (.tmp 7) (by rfl) b7 0 (by rfl) (scells t a n) _ (fun V hV => HR7L.out V hV) Try.underlying64 rfl SCL.out ?_
           simp only [Act.put, List.setIfInBounds_toArray, List.set_cons_zero, List.set_cons_succ]
           refine T_value (get_op rfl) (by rfl) (by rfl) (.bool false) (fun _ _ => by go_simp) ?_
           simp only [Act.put, List.setIfInBounds_toArray, List.set_cons_zero, List.set_cons_succ]
           refine T_value (get_op rfl) (by rfl) (by rfl) (.bool false) (fun _ _ => by go_simp) ?_
           simp only [Act.put, List.setIfInBounds_toArray, List.set_cons_zero, List.set_cons_succ]
           refine T_skip (get_op rfl) (by rfl) ?_
           simp only [Act.put, List.setIfInBounds_toArray, List.set_cons_zero, List.set_cons_succ]
           refine T_skip (get_op rfl) (by rfl) ?_
           simp only [Act.put, List.setIfInBounds_toArray, List.set_cons_zero, List.set_cons_succ]
           refine T_skip (get_op rfl) (by rfl) ?_
           simp only [Act.put, List.setIfInBounds_toArray, List.set_cons_zero, List.set_cons_succ]
           refine T_skip (get_op rfl) (by rfl) ?_
           simp only [Act.put, List.setIfInBounds_toArray, List.set_cons_zero, List.set_cons_succ]
           refine T_value (get_op rfl) (by rfl) (by rfl) (.bool false) (fun _ _ => by go_simp) ?_
           simp only [Act.put, List.setIfInBounds_toArray, List.set_cons_zero, List.set_cons_succ]
           refine T_store (get_op rfl) (by rfl) (by rfl) 64 (.tmp 4) (.tmp 34) (by rfl) (by rfl) q0 (by rfl) (scells t a n).toArray Z (by rfl) 64 size_super SCZ2.out (scells_all t a n) (fun V => V.heap[q0]? = some (.cells (scells t a n).toArray 64 (0, 0))) (Lasts.block _ _) (fun V hb hf => ⟨hf, hb.trans (Keeps.setRow _ _), setRow_heap _ _ _ _ _ _ hf⟩) ?_
           refine T_value (get_op rfl) (by rfl) (by rfl) (.bool false) (fun _ _ => by go_simp) ?_
           simp only [Act.put, List.setIfInBounds_toArray, List.set_cons_zero, List.set_cons_succ]
           refine T_nil ?_
           intro V9 k9 f9
           simp only [List.drop_succ_cons, List.drop_zero]
           go_wp2_with fail
           refine bodyPost_ret (results_cell_tmp12 rfl _ _ q0 64 (scells t a n).toArray (0, 0) _ rfl f9 Try.underlying64 rfl size_super) rfl ?_
           exact ⟨false, rfl, ⟨fun h => (by cases h), fun h => absurd (FT.out.1 h.1) hf⟩, HKW.out V9 k9⟩)
end Go.Proofs.Ytnhegnncmjmafaa
namespace Go.Proofs.Ytnhegnncmjmafaa
open Go.RowKit Go.BigFrame
set_option linter.unusedVariables false

/-- Rows of bytes that a call made, in blocks from K on: the row of them is v. -/
structure RowsOwn (w : World) (K : Nat) (A : Option Addr) (c : Nat) (rs : List RowOf) : Prop where
  own : w.ownsRow K 33 1 (.slice A rs.length c) rs.length (rs.map fun r => .slice r.1 r.2.2.length r.2.1)
  each : ∀ r ∈ rs, w.ownsRow K 5 1 (.slice r.1 r.2.2.length r.2.1) r.2.2.length (bvs r.2.2)
section
variable {w w' : World} {K : Nat} {A : Option Addr} {c : Nat} {rs : List RowOf}
theorem RowsOwn.keeps {S : Nat → Prop} (h : RowsOwn w K A c rs) (hk : Keeps S w w') (hs : ∀ k, k < w.heap.size → K ≤ k → ¬ S k) : RowsOwn w' K A c rs :=
  ⟨hk.owns h.own (fun k hv => hs k (h.own.lt k hv).2 (h.own.lt k hv).1), fun r hr => hk.owns (h.each r hr) (fun k hv => hs k ((h.each r hr).lt k hv).2 ((h.each r hr).lt k hv).1)⟩
theorem RowsOwn.later (h : RowsOwn w K A c rs) (hk : Keeps (fun _ => False) w w') : RowsOwn w' K A c rs := h.keeps hk (fun _ _ _ => id)
theorem RowsOwn.at_ (h : RowsOwn w K A c rs) : RowsAt w A rs := by
  refine ⟨fun i r hr => ?_, fun r hr => Src.of_own (h.each r hr), fun r hr => ?_⟩
  · obtain ⟨a, e, hc⟩ := Src.of_own h.own i (.slice r.1 r.2.2.length r.2.1) (by rw [List.getElem?_map, hr]; rfl)
    exact ⟨a, e, hc⟩
  · rcases (h.each r hr).2 with ⟨h1, h2⟩ | ⟨g, cap, cur, h1, _, _, h4, h5, _⟩
    · injection h1 with _ h3 h4
      omega
    · injection h1 with _ _ h3
      unfold maxLen at h5
      omega
end
theorem ne_blocks {w : World} {b1 b2 n1 n2 s1 s2 : Nat} {e1 e2 : TypeId} {v1 v2 : Value} {x1 x2 : List Value} (h1 : w.ownsRow b1 e1 s1 v1 n1 x1) (h2 : w.ownsRow b2 e2 s2 v2 n2 x2) (he : e1 ≠ e2) (k : Nat) (hk : v1.ownBlock = some k) : v2.ownBlock ≠ some k := fun hk2 => by
  obtain ⟨c1, hc1, _⟩ := own_block h1 k hk
  obtain ⟨c2, hc2, _⟩ := own_block h2 k hk2
  rw [hc1] at hc2
  injection hc2 with hc2
  injection hc2 with _ h3
  exact he h3
theorem info_st12 : (Try.prog.info? 33).map (fun i => (i.zero, i.size, i.bytes)) = some (some (.slice none 0 0), 1, 24) := by kernel_rfl
theorem ci_of_nb (x : BitVec 32) : ci x % 256 ^ 4 = ci x := Int.emod_eq_of_lt (ci_nonneg x) (ci_lt x)
theorem frames_drop (rows : List Wl.Bs) (i : Nat) (r : Wl.Bs) (h : rows[i]? = some r) : Wl.frames (rows.drop i) = nb (r.length : Int) 4 ++ (nb (ci (Cr.sum r)) 4 ++ (r ++ Wl.frames (rows.drop (i + 1)))) := by
  have hi := (List.getElem?_eq_some_iff.1 h).1
  rw [← List.getElem_cons_drop hi, (List.getElem?_eq_some_iff.1 h).2, Wl.frames_cons]
  unfold Wl.frame
  simp only [List.append_assoc]
theorem bsOf_snoc (rs : List RowOf) (A : Option Addr) (c : Nat) (r : Wl.Bs) : bsOf (rs ++ [(A, c, r)]) = bsOf rs ++ [r] := by unfold bsOf; rw [List.map_append]; rfl
set_option maxRecDepth 100000 in
set_option maxHeartbeats 4000000 in
theorem unframed_any (A : Option Addr) (c : Nat) (rows : List Wl.Bs) (w : World) (hs : Src w A (bvs (Wl.frames rows))) (hx : (Wl.frames rows).length ≤ 90000000) (hr : ∀ r ∈ rows, r.length ≤ 16384) :
    Calls Try.prog 28 #[.slice A (Wl.frames rows).length c] w fun e w' => ∃ A' c' rs, e = .returned (.tuple #[.slice A' rows.length c', .int .i64 0]) ∧ bsOf rs = rows ∧ RowsOwn w' w.heap.size A' c' rs ∧ Keeps (fun _ => False) w w' := by
  have hnr := newReader_any A c (Wl.frames rows) w hs (by omega)
  have hmany := Wl.frames_many rows
  obtain ⟨N, hN⟩ : ∃ N, (Wl.frames rows).length = N := ⟨_, rfl⟩
  rw [hN] at hnr hmany hx ⊢
  obtain ⟨M, hM⟩ : ∃ M, rows.length = M := ⟨_, rfl⟩
  rw [hM] at hmany ⊢
  obtain ⟨i0, hi0, hi1⟩ := info_parts info_st12
  have HI : Hid (Try.prog.info? 33 = some i0 ∧ i0.zero = some (.slice none 0 0) ∧ i0.size = 1 ∧ i0.bytes = 24) := Lib.hid ⟨hi0, hi1⟩
  have HNR := Lib.hid hnr
  have HRL := Lib.hid hr
  have HM := Lib.hid (And.intro hN hM)
  clear hnr hs hr hN hM hi0 hi1
  go_enter Try.func28, Try.ntmps28
  go_wp2_with fail
  refine HNR.out.mono ?_
  rintro e w1 ⟨b, rr, rfl, hb, hrr, hrd, k1⟩
  have HB : Hid (w.heap.size ≤ b ∧ ∀ k, rr = some k → w.heap.size ≤ k) := Lib.hid ⟨hb, hrr⟩
  have HRB : Hid (b < w1.heap.size ∧ ∀ k, rr = some k → k < w1.heap.size) := Lib.hid ⟨hrd.lt, fun k hk => (hrd.1 k hk).1⟩
  have HRD := Lib.hid hrd
  have HK1 := Lib.hid k1
  clear hb hrr hrd k1 HNR
  go_wp2_with fail
  go_loopw [4, 6, 7, 8] (fun v4 _ _ _ ww => ∃ (i : Nat) (rs : List RowOf) (A4 : Option Addr) (c4 : Nat), i ≤ M ∧ v4 = .slice A4 i c4 ∧ Hid (bsOf rs = rows.take i) ∧ Hid (rs.length = i) ∧ Hid (RowsOwn ww w1.heap.size A4 c4 rs) ∧ Hid (Rd ww b rr (Wl.frames (rows.drop i), 0)) ∧ Hid (Keeps (fun k => k = b ∨ w1.heap.size ≤ k) w1 ww)) (fun v4 _ _ _ _ => M - (match v4 with | .slice _ n _ => n | _ => 0))
  case atStart => exact ⟨0, [], none, 0, by omega, rfl, Lib.hid rfl, Lib.hid rfl, Lib.hid ⟨World.ownsRow_nil _ _ _ _, fun r hr => by cases hr⟩, Lib.hid HRD.out, Lib.hid (Keeps.refl _ _)⟩
  case round =>
    clear HRD
    obtain ⟨i, rs, A4, c4, hi, rfl, HBS, HLEN, HOWN, HRD, HKP⟩ := hrel
    have hend := rdEnd_any b rr _ wr HRD.out
    by_cases hlt : i < M
    · obtain ⟨r, hr⟩ : ∃ r, rows[i]? = some r := ⟨_, List.getElem?_eq_getElem (by rw [HM.out.2]; omega)⟩
      have hmem := HRL.out r (List.mem_of_getElem? hr)
      have hfd := frames_drop rows i r hr
      rw [show rend (Wl.frames (rows.drop i), 0) = 12 by
        unfold rend
        rw [if_pos rfl, if_neg]
        show ¬ Wl.frames (rows.drop i) = []
        rw [hfd]
        intro h
        have := congrArg List.length h
        rw [List.length_append, nb_length] at this
        simp at this] at hend
      have hrd := HRD.out
      rw [hfd] at hrd
      obtain ⟨n, hn⟩ : ∃ n, r.length = n := ⟨_, rfl⟩
      have hn1 := rdNum_any b rr 4 _ wr hrd
      have e1 := rnum_front (r.length : Int) 4 (nb (ci (Cr.sum r)) 4 ++ (r ++ Wl.frames (rows.drop (i + 1)))) (by omega) (by omega) (by omega)
      rw [show ((4 : Nat) : Int) = 4 from rfl, Int.emod_eq_of_lt (by omega) (by show (r.length : Int) < (4294967296 : Int); omega), hn] at e1
      rw [hn] at hn1
      rw [e1] at hn1
      have HEND := Lib.hid hend
      have HN1 := Lib.hid hn1
      have HNN := Lib.hid hn
      have HR := Lib.hid hr
      rw [hn] at hmem
      clear hend hn1 hrd hfd e1 hn hr
      go_wp2_with fail
      refine HEND.out.mono ?_
      rintro e wx ⟨rfl, hx⟩
      obtain rfl : wr = wx := hx
      go_wp2_with fail
      refine HN1.out.mono ?_
      rintro e w2 ⟨rfl, hrd2, k2⟩
      have hn2 := rdNum_any b rr 4 _ w2 hrd2
      have e2 := rnum_front (ci (Cr.sum r)) 4 (r ++ Wl.frames (rows.drop (i + 1))) (ci_nonneg _) (by omega) (by omega)
      rw [show ((4 : Nat) : Int) = 4 from rfl, ci_of_nb] at e2
      rw [e2] at hn2
      obtain ⟨z, hz⟩ : ∃ z, ci (Cr.sum r) = z := ⟨_, rfl⟩
      rw [hz] at hn2
      have HN2 := Lib.hid hn2
      have HZ := Lib.hid hz
      have HK2 := Lib.hid k2
      clear hn2 e2 hz hrd2 k2 HEND HN1
      go_wp2_with fail
      refine HN2.out.mono ?_
      rintro e w3 ⟨rfl, hrd3, k3⟩
      have hra := rdRaw_any b rr (n : Int) _ w3 hrd3 (by
        have h1 := Wl.frames_take_le rows i
        have h2 : (Wl.frames rows).length = (Wl.frames (rows.take i)).length + (Wl.frames (rows.drop i)).length := by rw [← List.length_append, ← Wl.frames_append, List.take_append_drop]
        have h3 := congrArg List.length (frames_drop rows i r HR.out)
        simp only [List.length_append, nb_length] at h3 ⊢
        have := HM.out.1
        omega)
      rw [show rraw (n : Int) (r ++ Wl.frames (rows.drop (i + 1)), 0) = ((Wl.frames (rows.drop (i + 1)), 0), r) by
        unfold rraw
        rw [if_neg (by omega), Int.toNat_natCast]
        exact tk_front r _ n HNN.out] at hra
      unfold Told at hra
      simp only [HNN.out] at hra
      have en : IntKind.i64.wrap (n : Int) = (n : Int) := IntWalk.i64_in _ (by omega)
      have HRA := Lib.hid hra
      have HK3 := Lib.hid k3
      have hns : ¬ (16384 : Int) < (n : Int) := by omega
      clear hra hrd3 k3 HN2
      go_wp2_with fail
      refine HRA.out.mono ?_
      rintro e w4 ⟨A5, c5, rfl, hown, hrd4, k4⟩
      have her := rdErr_any b rr _ w4 hrd4
      simp only at her
      have HER := Lib.hid her
      have HO5 := Lib.hid hown
      have HRD4 := Lib.hid hrd4
      have K24 : Hid (Keeps (fun k => k = b) wr w4) := Lib.hid ((HK2.out.trans HK3.out).trans k4)
      have hs34 : w1.heap.size ≤ w3.heap.size := by have := HKP.out.size; have := HK2.out.size; have := HK3.out.size; omega
      have HS34 := Lib.hid hs34
      clear her hown hrd4 k4 hs34 HRA HK2 HK3
      go_wp2_with fail
      refine HER.out.mono ?_
      rintro e wx ⟨rfl, hx⟩
      obtain rfl : w4 = wx := hx
      obtain ⟨W5, hW5⟩ : ∃ W, w4.alloc (.cells #[.slice A5 n c5] 33) = W := ⟨_, rfl⟩
      have k5 : Keeps (fun _ => False) w4 W5 := by rw [← hW5]; exact (Keeps.refl _ _).alloc _
      obtain ⟨Y, hY⟩ : ∃ Y, w4.heap.size = Y := ⟨_, rfl⟩
      have r5 : Row W5 Y 33 [.slice A5 n c5] := by rw [← hW5, ← hY]; exact heap_alloc_new w4 _
      have ho5 := k5.owns HO5.out (fun _ _ => id)
      have hcap : r.length ≤ c5 ∧ c5 ≤ 9223372036854775807 := by
        rw [HNN.out]
        rcases HO5.out.2 with ⟨h1, h2⟩ | ⟨g, cap, cur, h1, _, _, h4, h5, _⟩
        · injection h1 with _ h3 h4; omega
        · injection h1 with _ _ h3; unfold maxLen at h5; omega
      have hcrc := crc_any (some ⟨Y, 0, none⟩) 1 [(A5, c5, r)] W5 (rowsAt_one (by rw [add_plain, r5.cell]; show some (Value.slice A5 n c5) = _; rw [← HNN.out]) (Src.of_own ho5) hcap) (by simp) (by intro q hq; rw [List.mem_singleton] at hq; subst hq; show r.length ≤ _; rw [HNN.out]; omega)
      rw [show bytesOf [(A5, c5, r)] = r by simp [bytesOf]] at hcrc
      unfold cv at hcrc
      rw [HZ.out] at hcrc
      have HCRC : Hid (Calls Try.prog 55 #[.slice (some ⟨Y, 0, none⟩) 1 1] W5 _) := Lib.hid hcrc
      have HCAP := Lib.hid hcap
      have HK5 := Lib.hid k5
      have ez : IntKind.u64.wrap z = z := by rw [← HZ.out]; exact ci_u64 _
      clear hcrc r5 ho5 k5 hcap HER
      go_wp2_with fail
      refine HCRC.out.mono ?_
      rintro e w6 ⟨rfl, k6⟩
      obtain ⟨W7, hW7⟩ : ∃ W, w6.alloc (.cells #[.slice A5 n c5] 33) = W := ⟨_, rfl⟩
      obtain ⟨Y7, hY7⟩ : ∃ Y, w6.heap.size = Y := ⟨_, rfl⟩
      have k7 : Keeps (fun _ => False) w6 W7 := by rw [← hW7]; exact (Keeps.refl _ _).alloc _
      have r7 : Row W7 Y7 33 [.slice A5 n c5] := by rw [← hW7, ← hY7]; exact heap_alloc_new w6 _
      have k47 : Keeps (fun _ => False) w4 W7 := (HK5.out.trans k6).trans k7
      have kall : Keeps (fun k => k = b) wr W7 := K24.out.trans (k47.mono (fun _ _ h => h.elim))
      have hro := HOWN.out.keeps kall (fun k _ hK e => by have := HRB.out.1; omega)
      have hrd7 := HRD4.out.keeps k47 id (fun _ _ => id)
      have ho7 := k47.owns HO5.out (fun _ _ => id)
      obtain ⟨VS, hVS⟩ : ∃ l, (rs.map fun r => Value.slice r.1 r.2.2.length r.2.1) = l := ⟨_, rfl⟩
      have hown7 := hro.own
      rw [HLEN.out, hVS] at hown7
      have HOWN7 := Lib.hid hown7
      have HRO7 := Lib.hid hro
      have HRD7 := Lib.hid hrd7
      have HO7 := Lib.hid ho7
      have HVS := Lib.hid hVS
      have HKA := Lib.hid kall
      have HR7 := Lib.hid r7
      have hw17 : w1.heap.size ≤ W7.heap.size := by have := HKP.out.size; have := kall.size; omega
      have HW17 := Lib.hid hw17
      clear k6 k7 r7 k47 kall hro hrd7 ho7 hVS hown7 HCRC HOWN HRD HO5 HRD4 HK5 hw17
      go_wp2_with (at_builtin; refine wpList_append_src _ rfl _ _ 23 rfl w1.heap.size 33 i0 (.slice none 0 0) 24 Try.underlying23 HI.out.1 HI.out.2.1 HI.out.2.2.1 HI.out.2.2.2 rfl (.slice A4 i c4) i VS rfl HOWN7.out (some ⟨Y7, 0, none⟩) 1 1 [.slice A5 n c5] rfl rfl HR7.out.src (by intro u hu; rw [List.mem_singleton] at hu; subst hu; rfl) (by unfold maxLen; omega) (by omega) HW17.out ?next)
      case next =>
        intro v' w8 hown8 hg hat
        obtain ⟨A8, c8, rfl⟩ := own_slice hown8
        have fin : RowsOwn w8 w1.heap.size A8 c8 (rs ++ [(A5, c5, r)]) := by
          refine ⟨?_, fun q hq => ?_⟩
          · rw [List.length_append, HLEN.out, List.map_append, HVS.out]
            show w8.ownsRow _ _ 1 _ (i + 1) (VS ++ [.slice A5 r.length c5])
            rw [HNN.out]
            exact hown8
          · have hne : ∀ {q : RowOf} {xs : List Value} {m : Nat}, W7.ownsRow w1.heap.size 5 1 (.slice q.1 q.2.2.length q.2.1) m xs → w8.ownsRow w1.heap.size 5 1 (.slice q.1 q.2.2.length q.2.1) m xs := fun {q xs m} h => by
              refine h.kept hg ?_
              cases hv : (Value.slice q.1 q.2.2.length q.2.1).ownBlock with
              | none => exact .inl rfl
              | some k => exact .inr (fun e => ne_blocks h HOWN7.out (by decide) k hv e.symm)
            rcases List.mem_append.1 hq with hq | hq
            · exact hne (HRO7.out.each q hq)
            · rw [List.mem_singleton] at hq
              subst hq
              refine hne (q := (A5, c5, r)) ?_
              show W7.ownsRow _ _ 1 (.slice A5 r.length c5) r.length _
              rw [HNN.out]
              exact own_base HO7.out HS34.out
        have hk8 : Keeps (fun k => k = b ∨ w1.heap.size ≤ k) w1 w8 := (HKP.out.trans (HKA.out.mono (fun _ _ e => .inl e))).grown hg (fun k _ e => .inr (HOWN7.out.lt k e).1)
        have hrd8 : Rd w8 b rr (Wl.frames (rows.drop (i + 1)), 0) := by
          have kg : Keeps (fun k => w1.heap.size ≤ k) W7 w8 := ((Keeps.refl (fun k => w1.heap.size ≤ k) W7)).grown hg (fun k _ e => (HOWN7.out.lt k e).1)
          exact HRD7.out.keeps kg (by have := HRB.out.1; omega) (fun k hk => by have := HRB.out.2 k hk; omega)
        have hbs : bsOf (rs ++ [(A5, c5, r)]) = rows.take (i + 1) := by
          rw [bsOf_snoc, HBS.out, List.take_add_one, HR.out]; rfl
        have FIN := Lib.hid (And.intro fin (And.intro hk8 (And.intro hrd8 hbs)))
        clear fin hk8 hrd8 hbs hown8 hg hat
        go_wp2_with fail
        go_roundw
        case rel => exact ⟨i + 1, rs ++ [(A5, c5, r)], A8, c8, by omega, by first | rfl | trivial, Lib.hid FIN.out.2.2.2, Lib.hid (by rw [List.length_append, HLEN.out]; rfl), Lib.hid FIN.out.1, Lib.hid FIN.out.2.2.1, Lib.hid FIN.out.2.1⟩
        case measure => simp; omega
    · have hi' : i = M := by omega
      rw [show rend (Wl.frames (rows.drop i), 0) = 0 by
        rw [hi', ← HM.out.2, List.drop_length]
        rfl] at hend
      have hbs : bsOf rs = rows := by rw [HBS.out, hi', ← HM.out.2, List.take_length]
      have hk : Keeps (fun _ => False) w wr := HK1.out.trans' HKP.out (fun k hk e => by have := HB.out.1; have := HK1.out.size; omega)
      have hro : RowsOwn wr w.heap.size A4 c4 rs := ⟨own_base HOWN.out.own HK1.out.size, fun q hq => own_base (HOWN.out.each q hq) HK1.out.size⟩
      have HEND := Lib.hid hend
      have FIN := Lib.hid (And.intro hbs (And.intro hro hk))
      clear hend hbs hro hk
      go_wp2_with fail
      refine HEND.out.mono ?_
      rintro e wx ⟨rfl, hx⟩
      obtain rfl : wr = wx := hx
      go_wp2
      go_ret2
      exact ⟨A4, c4, rs, by rw [← hi']; rfl, FIN.out.1, FIN.out.2.1, FIN.out.2.2⟩
end Go.Proofs.Ytnhegnncmjmafaa
namespace Go.Proofs.Ytnhegnncmjmafaa
open Go.RowKit Go.BigFrame
set_option linter.unusedVariables false

namespace Wl
/-- An area's bytes: so many blocks from block i on. -/
def ars (d : Nat → Dk.Blk) (i m : Nat) : Bs := (List.range m).flatMap fun j => d (i + j)
theorem ars_succ (d : Nat → Dk.Blk) (i m : Nat) : ars d i (m + 1) = ars d i m ++ d (i + m) := by unfold ars; rw [List.range_succ, List.flatMap_append]; simp
theorem ars_length (d : Nat → Dk.Blk) (i m : Nat) (h : ∀ j, (d j).length = 256) : (ars d i m).length = 256 * m := by
  induction m with
  | zero => rfl
  | succ m ih => rw [ars_succ, List.length_append, ih, h]; omega
end Wl
theorem own_cut {w : World} {base n m c : Nat} {e : TypeId} {A : Option Addr} {xs : List Value} (h : w.ownsRow base e 1 (.slice A n c) n xs) (hm : m ≤ n) : w.ownsRow base e 1 (.slice A m c) m (xs.take m) := by
  refine ⟨by rw [List.length_take, h.1]; omega, ?_⟩
  rcases h.2 with ⟨h1, h2⟩ | ⟨g, cap, cur, h1, h2, h3, h4, h5, h6, h7⟩
  · injection h1 with e1 e2 e3
    subst h2
    obtain rfl : m = 0 := by omega
    exact .inl ⟨by rw [e1, e3], rfl⟩
  · injection h1 with e1 e2 e3
    refine .inr ⟨g, cap, cur, by rw [e1, e3], h2, h3, by omega, h5, h6, ?_⟩
    rw [← h7, List.take_take]
    congr 1
    omega
theorem rd_length (s : Dk.St) (h : Dk.Ok s) (i : Nat) : (Dk.rd s i).length = 256 := Dk.over_length _ _ h.good (fun p hp => (h.loose p hp).2) i
set_option maxRecDepth 100000 in
set_option maxHeartbeats 4000000 in
theorem wread_any (w : World) (F : Nat → Prop) (p g k a n t : Nat) (s : Dk.St) (cs : List Value) (hR : Row w p 62 (.pointer (some ⟨g, 0, none⟩) :: .int .i64 (k : Int) :: cs)) (hD : DskAt w F g s) (hk : k ≤ 32767) (ha : a < 2) (hn : n ≤ 256 * k) (hin : 2 + a * k + k ≤ s.n) (hd : s.dead = false) (b : List UInt8)
    (hb : ∀ m, n ≤ 256 * m → m ≤ k → (Wl.ars (Dk.rd s) (2 + a * k) m).take n = b) :
    Calls Try.prog 27 #[.pointer (some ⟨p, 0, none⟩), .agg #[.int .u64 (t : Int), .int .i64 (a : Int), .int .i64 (n : Int)]] w fun e w' => ∃ A c, e = .returned (.tuple #[.slice A n c, .int .i64 0]) ∧ w'.ownsRow w.heap.size 5 1 (.slice A n c) n (bvs b) ∧ Keeps (fun _ => False) w w' := by
  obtain ⟨i0, hi, hz0, hz1, hz2⟩ := info_parts info_u8
  have HI := Lib.hid (And.intro hi (And.intro hz0 (And.intro hz1 hz2)))
  obtain ⟨b3, hb3⟩ : ∃ b, w.heap.size = b := ⟨_, rfl⟩
  obtain ⟨W1, hW1⟩ : ∃ W, w.alloc (.cells #[.int .u64 (t : Int), .int .i64 (a : Int), .int .i64 (n : Int)] 64) = W := ⟨_, rfl⟩
  have k1 : Keeps (fun _ => False) w W1 := by rw [← hW1]; exact (Keeps.refl _ _).alloc _
  have r1 : Row W1 b3 64 (scells t a n) := by rw [← hW1, ← hb3]; exact heap_alloc_new w _
  have HRW := Lib.hid (hR.keeps k1 id)
  have HDW := Lib.hid (hD.later k1)
  have HR1 := Lib.hid r1
  have HK1 := Lib.hid k1
  have HB := Lib.hid hb
  have HIN := Lib.hid hin
  have HBL := Lib.hid (rd_length s hD.ok)
  clear hR hD k1 r1 hb hin hi hz0 hz1 hz2
  go_enter Try.func27, Try.ntmps27
  go_wp2_with fail
  go_loopw [6, 7, 8, 9] (fun v6 v7 _ _ ww => ∃ (j : Nat) (A6 : Option Addr) (c6 : Nat), j ≤ k ∧ v6 = .slice A6 (256 * j) c6 ∧ v7 = .int .i64 (j : Int) ∧ Hid (ww.ownsRow W1.heap.size 5 1 (.slice A6 (256 * j) c6) (256 * j) (bvs (Wl.ars (Dk.rd s) (2 + a * k) j))) ∧ Hid (Keeps (fun k => W1.heap.size ≤ k) W1 ww)) (fun _ v7 _ _ _ => k - (intOf v7).toNat)
  case atStart => exact ⟨0, none, 0, by omega, rfl, rfl, Lib.hid (World.ownsRow_nil _ _ _ _), Lib.hid (Keeps.refl _ _)⟩
  case round =>
    obtain ⟨j, A6, c6, hj, rfl, rfl, HOW, HKP⟩ := hrel
    have hr1 := HR1.out.keeps HKP.out (fun e => by have := HR1.out.lt; omega)
    have c2 : wr.cell? ⟨b3, 2, none⟩ = some (.int .i64 (n : Int)) := hr1.cell 2
    obtain ⟨m, hm⟩ : ∃ m, 256 * j = m := ⟨_, rfl⟩
    obtain ⟨BA, hBA⟩ : ∃ L, bvs (Wl.ars (Dk.rd s) (2 + a * k) j) = L := ⟨_, rfl⟩
    have how := HOW.out
    rw [hm, hBA] at how
    rw [hm]
    have HM := Lib.hid hm
    by_cases hlt : m < n
    · have hjk : j < k := by omega
      have hlt' : (m : Int) < (n : Int) := by omega
      have hrow := HRW.out.keeps HKP.out (fun e => by have := HRW.out.lt; omega)
      have hdsk := HDW.out.keeps (S := fun k => W1.heap.size ≤ k) HKP.out (fun k hk _ hS => by omega)
      obtain ⟨q, hq⟩ : ∃ q, 2 + a * k + j = q := ⟨_, rfl⟩
      obtain ⟨BL, hBL⟩ : ∃ b, Dk.rd s q = b := ⟨_, rfl⟩
      have hbl : BL.length = 256 := by rw [← hBL]; exact HBL.out q
      have HP0 : Hid (∀ V, Later wr V → V.cell? ⟨p, 0, none⟩ = some (.pointer (some ⟨g, 0, none⟩))) := Lib.hid (fun V hV => (hrow.keeps hV.out id).cell 0)
      have HB1 : Hid (∀ V, Later wr V → V.cell? ⟨b3, 1, none⟩ = some (.int .i64 (a : Int))) := Lib.hid (fun V hV => (hr1.keeps hV.out id).cell 1)
      have HAT : Hid (∀ V, Later wr V → Calls Try.prog 49 #[.pointer (some ⟨p, 0, none⟩), .int .i64 (a : Int), .int .i64 (j : Int)] V fun e w' => e = .returned (.int .i64 (q : Int)) ∧ Keeps (fun _ => False) V w') := Lib.hid (fun V hV => by
        have h := wat_any V p _ k a j _ (hrow.keeps hV.out id) hk ha (by omega)
        rw [hq] at h
        exact h.mono (fun e w' hh => ⟨hh.1, by rw [hh.2]; exact Keeps.refl _ _⟩))
      have HRE : Hid (∀ V, Later wr V → Calls Try.prog 47 #[.pointer (some ⟨g, 0, none⟩), .int .i64 (q : Int)] V fun e w' => ∃ x : Nat, e = .returned (.tuple #[.slice (some ⟨x, 0, none⟩) 256 256, .int .i64 0]) ∧ Later wr w' ∧ Src w' (some ⟨x, 0, none⟩) (bvs BL)) := Lib.hid (fun V hV => by
        refine (read_ok V F g s (hdsk.later hV.out) q (by have := HIN.out; omega) hd).mono ?_
        rintro e w' ⟨h1, h2, h3⟩
        rw [hBL] at h2
        exact ⟨_, h1, ⟨hV.out.trans h3⟩, h2.src⟩)
      have HOWN := Lib.hid how
      have HBLL := Lib.hid hbl
      have HQ := Lib.hid (And.intro hq (And.intro hBL hBA))
      clear how hrow hr1 hdsk hq hBL hbl hBA HOW hm
      go_wp2_with fail
      refine wp_region_stores 15 [9] [0, 1, 2, 3, 4, 5, 6, 7, 8, 9, 10, 11, 12, 13, 14] (Later wr) (fun _ => True) (by kernel_rfl) (by kernel_rfl) (Lasts.later wr) (Lasts.true) (⟨(Keeps.refl _ _).drew⟩) (trivial) ?_
      refine T_value (get_op rfl) (by rfl) (by rfl) (.pointer (some ⟨p, 0, none⟩)) (fun _ _ => by go_simp) ?_
      simp only [Act.put, List.setIfInBounds_toArray, List.set_cons_zero, List.set_cons_succ]
      refine T_value (get_op rfl) (by rfl) (by rfl) (.pointer (some ⟨p, 0, none⟩)) (fun _ _ => by go_simp) ?_
      simp only [Act.put, List.setIfInBounds_toArray, List.set_cons_zero, List.set_cons_succ]
      refine T_value (get_op rfl) (by rfl) (by rfl) (.pointer (some ⟨p, 0, none⟩)) (fun _ _ => by go_simp) ?_
      simp only [Act.put, List.setIfInBounds_toArray, List.set_cons_zero, List.set_cons_succ]
      refine T_cell (get_op rfl) (by rfl) (by rfl) 25 (.tmp 20) (by rfl) ⟨p, 0, none⟩ (by rfl) (.pointer (some ⟨g, 0, none⟩)) _ (fun V hV => HP0.out V hV) Try.underlying25 rfl ?_
      simp only [Act.put, List.setIfInBounds_toArray, List.set_cons_zero, List.set_cons_succ]
      refine T_value (get_op rfl) (by rfl) (by rfl) (.pointer (some ⟨p, 0, none⟩)) (fun _ _ => by go_simp) ?_
      simp only [Act.put, List.setIfInBounds_toArray, List.set_cons_zero, List.set_cons_succ]
      refine T_value (get_op rfl) (by rfl) (by rfl) (.pointer (some ⟨b3, 1, none⟩)) (fun _ _ => by go_simp) ?_
      simp only [Act.put, List.setIfInBounds_toArray, List.set_cons_zero, List.set_cons_succ]
      refine T_cell (get_op rfl) (by rfl) (by rfl) 3 (.tmp 23) (by rfl) ⟨b3, 1, none⟩ (by rfl) (.int .i64 (a : Int)) _ (fun V hV => HB1.out V hV) Try.underlying3 rfl ?_
      simp only [Act.put, List.setIfInBounds_toArray, List.set_cons_zero, List.set_cons_succ]
      refine T_value (get_op rfl) (by rfl) (by rfl) (.int .i64 (j : Int)) (fun _ _ => by go_simp) ?_
      simp only [Act.put, List.setIfInBounds_toArray, List.set_cons_zero, List.set_cons_succ]
      refine T_call (get_op rfl) (by rfl) (by rfl) _ _ (.int .i64 (q : Int)) (fun _ => by go_simp) (fun V hV => HAT.out V hV) ?_
      simp only [Act.put, List.setIfInBounds_toArray, List.set_cons_zero, List.set_cons_succ]
      refine T_enterR (get_op rfl) (by rfl) (by rfl) _ _ (fun x : Nat => .tuple #[.slice (some ⟨x, 0, none⟩) 256 256, .int .i64 0]) (fun x y h => by simpa using h) (fun _ => by go_simp) (fun x V => Src V (some ⟨x, 0, none⟩) (bvs BL)) (fun x w w' h hk => h.keeps hk (fun _ _ _ => id)) (fun V hb hf => HRE.out V hb) ?_
      intro X
      simp only [Act.put, List.setIfInBounds_toArray, List.set_cons_zero, List.set_cons_succ]
      refine T_value (get_op rfl) (by rfl) (by rfl) (.tuple #[.slice (some ⟨X, 0, none⟩) 256 256, .int .i64 0]) (fun _ _ => by go_simp) ?_
      simp only [Act.put, List.setIfInBounds_toArray, List.set_cons_zero, List.set_cons_succ]
      refine T_value (get_op rfl) (by rfl) (by rfl) (.slice (some ⟨X, 0, none⟩) 256 256) (fun _ _ => by go_simp) ?_
      simp only [Act.put, List.setIfInBounds_toArray, List.set_cons_zero, List.set_cons_succ]
      refine T_value (get_op rfl) (by rfl) (by rfl) (.int .i64 0) (fun _ _ => by go_simp) ?_
      simp only [Act.put, List.setIfInBounds_toArray, List.set_cons_zero, List.set_cons_succ]
      refine T_value (get_op rfl) (by rfl) (by rfl) (.slice (some ⟨X, 0, none⟩) 256 256) (fun _ _ => by go_simp) ?_
      simp only [Act.put, List.setIfInBounds_toArray, List.set_cons_zero, List.set_cons_succ]
      refine T_value (get_op rfl) (by rfl) (by rfl) (.int .i64 0) (fun _ _ => by go_simp) ?_
      simp only [Act.put, List.setIfInBounds_toArray, List.set_cons_zero, List.set_cons_succ]
      refine T_nil ?_
      intro V k9 f9
      simp only [List.drop_succ_cons, List.drop_zero]
      have hown9 := k9.out.owns HOWN.out (fun _ _ => id)
      have hs9 : W1.heap.size ≤ V.heap.size := by have := HKP.out.size; have := k9.out.size; omega
      have KK9 := Lib.hid (HKP.out.trans (k9.out.mono (fun _ _ h => h.elim)))
      clear c2 k9
      go_wp2_with (at_builtin; refine wpList_append_src _ rfl _ _ 33 rfl W1.heap.size 5 i0 (.int .u8 0) 1 Try.underlying33 HI.out.1 HI.out.2.1 HI.out.2.2.1 HI.out.2.2.2 rfl (.slice A6 m c6) m BA rfl hown9 (some ⟨X, 0, none⟩) 256 256 (bvs BL) rfl ?len f9 (bvs_one _) ?m1 ?m2 hs9 ?next)
      case len => rw [bvs_length]; exact HBLL.out
      case m1 => unfold maxLen; omega
      case m2 => omega
      case next =>
        intro v' w8 hown8 hg hat
        obtain ⟨A8, c8, rfl⟩ := own_slice hown8
        have fin : w8.ownsRow W1.heap.size 5 1 (.slice A8 (256 * (j + 1)) c8) (256 * (j + 1)) (bvs (Wl.ars (Dk.rd s) (2 + a * k) (j + 1))) := by
          rw [Wl.ars_succ, HQ.out.1, HQ.out.2.1, ← bvs_append, HQ.out.2.2, show 256 * (j + 1) = m + 256 by have := HM.out; omega]
          exact hown8
        have hk8 : Keeps (fun k => W1.heap.size ≤ k) W1 w8 := KK9.out.grown hg (fun k _ e => (HOWN.out.lt k e).1)
        have FIN := Lib.hid (And.intro fin hk8)
        have e8 : m + 256 = 256 * (j + 1) := by have := HM.out; omega
        clear fin hk8 hown8 hg hat hs9 hown9 f9
        go_wp2_with fail
        go_roundw
        case rel => exact ⟨j + 1, A8, c8, by omega, by rw [e8], by go_num, Lib.hid FIN.out.1, Lib.hid FIN.out.2⟩
        case measure => simp [intOf]; omega
    · have hge : ¬ (m : Int) < (n : Int) := by omega
      have hnm : n ≤ m := by omega
      obtain ⟨_, hmc, hcm⟩ := own_cap how
      have hnc : (n : Int) ≤ (c6 : Int) := by omega
      have hfin : (Wl.ars (Dk.rd s) (2 + a * k) j).take n = b := HB.out j (by have := HM.out; omega) hj
      have hcut := own_cut how hnm
      rw [← hBA, bvs_take, hfin] at hcut
      have hk : Keeps (fun _ => False) w wr := HK1.out.trans' HKP.out (fun i hi h => by have := HK1.out.size; omega)
      have FIN := Lib.hid (And.intro (own_base hcut HK1.out.size) hk)
      clear hcut hk hfin how hBA hr1
      go_wp2_with fail
      go_ret2
      exact ⟨A6, c6, rfl, by rw [← hb3]; exact FIN.out.1, FIN.out.2⟩
end Go.Proofs.Ytnhegnncmjmafaa
namespace Go.Proofs.Ytnhegnncmjmafaa
open Go.RowKit Go.BigFrame
set_option linter.unusedVariables false

namespace Wl
/-- A block is looked at: its super is the one now, if it counts, and has a greater turn. -/
def Best (room : Nat) (b : Bs) (x y : Nat × Nat × Nat) : Prop := (counts room b ∧ x.1 < pT b ∧ y = (pT b, pA b, pN b)) ∨ ((¬ counts room b ∨ ¬ x.1 < pT b) ∧ y = x)
def Tops (room : Nat) (d : Nat → Bs) : Nat → Nat × Nat × Nat → Prop
  | 0, y => y = (0, 0, 0)
  | i + 1, y => ∃ x, Tops room d i x ∧ Best room (d i) x y
theorem Tops.fits {room : Nat} {d : Nat → Bs} : ∀ {i : Nat} {y : Nat × Nat × Nat}, Tops room d i y → y.1 < 18446744073709551616 ∧ y.2.1 < 2 ∧ y.2.2 ≤ room
  | 0, y, h => by
    have h : y = (0, 0, 0) := h
    subst h
    refine ⟨?_, ?_, ?_⟩ <;> simp
  | i + 1, y, ⟨x, h1, h2⟩ => by
    rcases h2 with ⟨hc, _, rfl⟩ | ⟨_, rfl⟩
    · exact ⟨pT_lt _, hc.1.2.1, hc.1.2.2⟩
    · exact h1.fits
end Wl
set_option maxRecDepth 100000 in
set_option maxHeartbeats 4000000 in
theorem newest_any (w : World) (F : Nat → Prop) (p g k : Nat) (s : Dk.St) (cs : List Value) (hR : Row w p 62 (.pointer (some ⟨g, 0, none⟩) :: .int .i64 (k : Int) :: cs)) (hD : DskAt w F g s) (hk : k ≤ 32767) (hin : 2 ≤ s.n) (hd : s.dead = false) :
    Calls Try.prog 26 #[.pointer (some ⟨p, 0, none⟩)] w fun e w' => ∃ t a n, e = .returned (.tuple #[.agg (scells t a n).toArray, .int .i64 0]) ∧ Wl.Tops (256 * k) (Dk.rd s) 2 (t, a, n) ∧ Keeps (fun _ => False) w w' := by
  obtain ⟨Z, hZ⟩ : ∃ Z, (scells 0 0 0).toArray = Z := ⟨_, rfl⟩
  have hz : ∀ V : World, (zeroValue 64).run Try.prog V = .ok (.agg Z) V := fun V => by rw [← hZ]; exact zero_super V
  obtain ⟨b2, hb2⟩ : ∃ b, w.heap.size = b := ⟨_, rfl⟩
  obtain ⟨W1, hW1⟩ : ∃ W, w.alloc (.cells Z 64) = W := ⟨_, rfl⟩
  have k1 : Keeps (fun _ => False) w W1 := by rw [← hW1]; exact (Keeps.refl _ _).alloc _
  have r1 : Row W1 b2 64 (scells 0 0 0) := by rw [← hW1, ← hb2, ← hZ]; exact heap_alloc_new w _
  obtain ⟨b4, hb4⟩ : ∃ b, W1.heap.size = b := ⟨_, rfl⟩
  obtain ⟨W2, hW2⟩ : ∃ W, W1.alloc (.cells Z 64) = W := ⟨_, rfl⟩
  have k2 : Keeps (fun _ => False) W1 W2 := by rw [← hW2]; exact (Keeps.refl _ _).alloc _
  have r2 : Row W2 b4 64 (scells 0 0 0) := by rw [← hW2, ← hb4, ← hZ]; exact heap_alloc_new W1 _
  have HRW := Lib.hid (hR.keeps (k1.trans k2) id)
  have HDW := Lib.hid ((hD.mono (G := fun k => F k ∧ k < w.heap.size) (fun k hk hf => ⟨hf, hk⟩)).later (k1.trans k2))
  have HR1 := Lib.hid (r1.keeps k2 id)
  have HR2 := Lib.hid r2
  have HK2 := Lib.hid (k1.trans k2)
  have HBB : Hid (p < b2 ∧ b2 < b4 ∧ b4 < W2.heap.size ∧ w.heap.size = b2) := Lib.hid (by
    have h1 := hR.lt
    have h2 := r1.lt
    have h3 := r2.lt
    exact ⟨by omega, by omega, h3, hb2⟩)
  have HBL := Lib.hid (rd_length s hD.ok)
  have HZ := Lib.hid hZ
  have HIN := Lib.hid hin
  clear hR hD r1 k1 r2 k2 hZ hin
  go_enter Try.func26, Try.ntmps26
  go_wp2_with fail
  go_loopw [5, 6, 7, 8, 9, 10] (fun _ _ _ _ _ iv ww => ∃ (i t a n : Nat), i ≤ 2 ∧ iv = .int .i64 (i : Int) ∧ Hid (Wl.Tops (256 * k) (Dk.rd s) i (t, a, n)) ∧ Hid (Row ww b4 64 (scells t a n)) ∧ Hid (Keeps (fun k => k = b4 ∨ W2.heap.size ≤ k) W2 ww)) (fun _ _ _ _ _ iv _ => 2 - (intOf iv).toNat)
  case atStart => exact ⟨0, 0, 0, 0, by omega, rfl, Lib.hid rfl, HR2, Lib.hid (Keeps.refl _ _)⟩
  case round =>
    clear HR2
    obtain ⟨i, t, a, n, hi, rfl, HT, HR4, HKP⟩ := hrel
    by_cases hlt : i < 2
    · have hii : (i : Int) < 2 := by omega
      have hrow := HRW.out.keeps HKP.out (fun e => by have := HBB.out; have := HRW.out.lt; omega)
      have hdsk := HDW.out.keeps (S := fun k => k = b4 ∨ W2.heap.size ≤ k) HKP.out (fun k hk hf hS => by have := hf.2; have := HBB.out; omega)
      have c0 : wr.cell? ⟨p, 0, none⟩ = some (.pointer (some ⟨g, 0, none⟩)) := hrow.cell 0
      have hre := read_ok wr _ g s hdsk i (by have := HIN.out; omega) hd
      obtain ⟨X, hX⟩ : ∃ x, wr.heap.size = x := ⟨_, rfl⟩
      rw [hX] at hre
      have HRE := Lib.hid hre
      have HROW := Lib.hid hrow
      have HXX : Hid (b4 < X ∧ W2.heap.size ≤ X) := Lib.hid (by have := HKP.out.size; have := HBB.out; omega)
      clear hre hrow hdsk hX
      go_wp2_with fail
      refine HRE.out.mono ?_
      rintro e w2 ⟨rfl, hbl, k2⟩
      obtain ⟨b, hb⟩ : ∃ b, Dk.rd s i = b := ⟨_, rfl⟩
      rw [hb] at hbl
      have hblen : b.length = 256 := by rw [← hb]; exact HBL.out i
      obtain ⟨K, hK⟩ : ∃ K, 256 * k = K := ⟨_, rfl⟩
      have hro := wroom_any w2 p _ k _ (HROW.out.keeps k2 id) hk
      rw [hK] at hro
      have hso := superOf_any (some ⟨X, 0, none⟩) 256 b K w2 hbl.src hblen (by omega)
      have HRO := Lib.hid hro
      have HSO := Lib.hid hso
      have HB := Lib.hid (And.intro hb hK)
      have HK2' := Lib.hid k2
      have HXL := Lib.hid hbl.lt
      obtain ⟨t1, ht1⟩ : ∃ t, Wl.pT b = t := ⟨_, rfl⟩
      obtain ⟨a1, ha1⟩ : ∃ t, Wl.pA b = t := ⟨_, rfl⟩
      obtain ⟨n1, hn1⟩ : ∃ t, Wl.pN b = t := ⟨_, rfl⟩
      rw [ht1, ha1, hn1] at HSO
      have HT1 := Lib.hid (And.intro ht1 (And.intro ha1 hn1))
      obtain ⟨CS, hCS⟩ : ∃ C, (scells t1 a1 n1).toArray = C := ⟨_, rfl⟩
      rw [hCS] at HSO
      have HCS := Lib.hid hCS
      clear hro hso hb hK k2 hbl hblen ht1 ha1 hn1 hCS HRE c0
      go_wp2_with fail
      refine HRO.out.mono ?_
      rintro e wx ⟨rfl, hx⟩
      obtain rfl : w2 = wx := hx.symm
      go_wp2_with fail
      refine HSO.out.mono ?_
      rintro e w3 ⟨q, rfl, hq, k3⟩
      obtain ⟨b8, hb8⟩ : ∃ b, w3.heap.size = b := ⟨_, rfl⟩
      obtain ⟨W4, hW4⟩ : ∃ W, w3.alloc (.cells Z 64) = W := ⟨_, rfl⟩
      have k4 : Keeps (fun _ => False) w3 W4 := by rw [← hW4]; exact (Keeps.refl _ _).alloc _
      have r4 : W4.heap[b8]? = some (.cells Z 64 (0, 0)) := by rw [← hW4, ← hb8]; exact heap_alloc_new w3 _
      obtain ⟨W5, hW5⟩ : ∃ W, W4.setRow b8 CS = W := ⟨_, rfl⟩
      have k5 : Keeps (fun k => k = b8) W4 W5 := by rw [← hW5]; exact Keeps.setRow _ _
      have r5 : Row W5 b8 64 (scells t1 a1 n1) := by rw [← hW5]; have := setRow_heap W4 b8 Z CS _ _ r4; rw [← HCS.out] at this; rw [← HCS.out]; exact this
      have k35 : Keeps (fun k => k = b8) w3 W5 := (k4.mono (fun _ _ h => h.elim)).trans k5
      have hb8x : X ≤ b8 := by have := k3.size; have := HXL.out; rw [← hb8]; omega
      have kr5 : Keeps (fun k => k = b4 ∨ W2.heap.size ≤ k) W2 W5 := ((HKP.out.trans (HK2'.out.mono (fun _ _ h => h.elim))).trans (k3.mono (fun _ _ h => h.elim))).trans (k35.mono (fun k _ e => .inr (by have := HXX.out; omega)))
      have r45 : Row W5 b4 64 (scells t a n) := ((HR4.out.keeps HK2'.out id).keeps k3 id).keeps k35 (fun e => by have := HXX.out; omega)
      have SCS : Hid ((Try.prog.info? 64).map (·.size) = some CS.size) := Lib.hid (by rw [← HCS.out]; exact size_super)
      have SCZ : Hid (Z.size = CS.size) := Lib.hid (by rw [← HCS.out, ← HZ.out]; rfl)
      have OCS : Hid (CS.all (·.oneCell') = true) := Lib.hid (by rw [← HCS.out]; exact scells_all t1 a1 n1)
      have HR4' := Lib.hid r4
      have HR5 := Lib.hid r5
      have HR45 := Lib.hid r45
      have HKR5 := Lib.hid kr5
      have HQ := Lib.hid hq
      have c80 : W5.cell? ⟨b8, 0, none⟩ = some (.int .u64 (t1 : Int)) := r5.cell 0
      have c40 : W5.cell? ⟨b4, 0, none⟩ = some (.int .u64 (t : Int)) := r45.cell 0
      clear hq k3 k4 r4 k5 r5 k35 hb8x kr5 r45 HRO HSO HK2' HR4 HKP
      have HNO : Hid ((¬ Wl.counts K b ∨ ¬ t < t1) → Wl.Tops (256 * k) (Dk.rd s) (i + 1) (t, a, n)) := Lib.hid (fun h => ⟨(t, a, n), HT.out, .inr ⟨by rw [HB.out.1, HB.out.2, HT1.out.1]; exact h, rfl⟩⟩)
      have HYES : Hid (Wl.counts K b → t < t1 → Wl.Tops (256 * k) (Dk.rd s) (i + 1) (t1, a1, n1)) := Lib.hid (fun h h2 => ⟨(t, a, n), HT.out, .inl ⟨by rw [HB.out.1, HB.out.2]; exact h, by rw [HB.out.1, HT1.out.1]; exact h2, by rw [HB.out.1, HT1.out.1, HT1.out.2.1, HT1.out.2.2]⟩⟩)
      have HST : Hid (Row (W5.setRow b4 CS) b4 64 (scells t1 a1 n1) ∧ Keeps (fun k => k = b4 ∨ W2.heap.size ≤ k) W2 (W5.setRow b4 CS)) := Lib.hid ⟨by have := setRow_heap W5 b4 _ CS _ _ HR45.out; rw [← HCS.out] at this; rw [← HCS.out]; exact this, HKR5.out.trans ((Keeps.setRow b4 CS).mono (fun k _ e => .inl e))⟩
      by_cases hgt : t < t1
      all_goals
        first
        | (have hgi : (t : Int) < (t1 : Int) := by omega)
        | (have hgi : ¬ (t : Int) < (t1 : Int) := by omega)
        cases q
        all_goals
          go_wp2_with (first
            | (refine wpList_store_row (by rfl) 64 _ _ (by rfl) b8 CS (by rfl) (by rfl) 64 Z HR4'.out SCS.out SCZ.out OCS.out ?_; rw [hW5])
            | (refine wpList_load_row (by rfl) 64 _ (by rfl) b8 (by rfl) 64 CS (0, 0) _ (by rw [← HCS.out]; exact HR5.out) Try.underlying64 rfl SCS.out ?_)
            | (refine wpList_store_row (by rfl) 64 _ _ (by rfl) b4 CS (by rfl) (by rfl) 64 (scells t a n).toArray HR45.out SCS.out (by rw [← HCS.out]; rfl) OCS.out ?_))
          go_roundw
          case rel =>
            first
            | exact ⟨i + 1, t, a, n, by omega, by go_num, Lib.hid (HNO.out (.inr hgt)), HR45, HKR5⟩
            | exact ⟨i + 1, t, a, n, by omega, by go_num, Lib.hid (HNO.out (.inl (fun h => by have := HQ.out.2 h; cases this))), HR45, HKR5⟩
            | exact ⟨i + 1, t1, a1, n1, by omega, by go_num, Lib.hid (HYES.out (HQ.out.1 (by first | rfl | trivial)) hgt), Lib.hid HST.out.1, Lib.hid HST.out.2⟩
          case measure => simp [intOf]; omega
    · have hii : ¬ (i : Int) < 2 := by omega
      obtain rfl : i = 2 := by omega
      have r2 : Row wr b2 64 (scells 0 0 0) := HR1.out.keeps HKP.out (fun e => by have := HBB.out; omega)
      have hk : Keeps (fun _ => False) w wr := HK2.out.trans' HKP.out (fun i hi h => by have := HBB.out; have := HK2.out.size; omega)
      obtain ⟨CS, hCS⟩ : ∃ C, (scells t a n).toArray = C := ⟨_, rfl⟩
      have HCS := Lib.hid hCS
      have SCS : Hid ((Try.prog.info? 64).map (·.size) = some CS.size) := Lib.hid (by rw [← hCS]; exact size_super)
      have SCZ : Hid (Z.size = CS.size) := Lib.hid (by rw [← hCS, ← HZ.out]; rfl)
      have OCS : Hid (CS.all (·.oneCell') = true) := Lib.hid (by rw [← hCS]; exact scells_all t a n)
      have R2 : Hid (wr.heap[b2]? = some (.cells Z 64 (0, 0))) := Lib.hid (by rw [← HZ.out]; exact r2)
      have R4 : Hid (wr.heap[b4]? = some (.cells CS 64 (0, 0))) := Lib.hid (by rw [← hCS]; exact HR4.out)
      have FIN : Hid (Keeps (fun _ => False) w (wr.setRow b2 CS)) := Lib.hid (hk.trans' (Keeps.setRow _ _) (fun i hi e => by have := HBB.out; omega))
      clear r2 hk hCS HR4
      go_wp2_with (first
        | (refine wpList_load_row (by rfl) 64 _ (by rfl) b4 (by rfl) 64 CS (0, 0) _ R4.out Try.underlying64 rfl SCS.out ?_)
        | (refine wpList_store_row (by rfl) 64 _ _ (by rfl) b2 CS (by rfl) (by rfl) 64 Z R2.out SCS.out SCZ.out OCS.out ?_))
      refine bodyPost_ret (results_cell_tmp12 rfl _ _ b2 64 CS (0, 0) _ rfl (setRow_heap _ _ _ _ _ _ R2.out) Try.underlying64 rfl SCS.out) rfl ?_
      exact ⟨t, a, n, by rw [← HCS.out]; rfl, HT.out, FIN.out⟩
end Go.Proofs.Ytnhegnncmjmafaa
namespace Go.Proofs.Ytnhegnncmjmafaa
open Go.RowKit Go.BigFrame
set_option linter.unusedVariables false

def cutW (F : Nat → Prop) (a b : Nat) : Nat → Prop := fun k => F k ∧ (k < a ∨ b ≤ k)
/-- A log and its disk, apart from one another. -/
structure WalX (w : World) (F FD : Nat → Prop) (p g : Nat) (l : Wl.St) (s : Dk.St) (A : Option Addr) (c : Nat) : Prop where
  log : Log w (fun k => F k ∧ ¬ FD k) p g l A c
  dsk : DskAt w FD g s
  clo : ∀ k, w.heap.size ≤ k → FD k
  sub : ∀ k, FD k → F k
def Wal (w : World) (F : Nat → Prop) (p g : Nat) (l : Wl.St) (s : Dk.St) : Prop := ∃ FD A c, WalX w F FD p g l s A c
section
variable {w w' : World} {F FD : Nat → Prop} {p g : Nat} {l : Wl.St} {s s' : Dk.St} {A : Option Addr} {c : Nat}
theorem WalX.call (h : WalX w F FD p g l s A c) (hd : DskAt w' FD g s') (hk : Keeps FD w w') : WalX w' F FD p g l s' A c :=
  ⟨h.log.keeps hk (fun k _ hf hd => hf.2 hd), hd, fun k hl => h.clo k (Nat.le_trans hk.size hl), h.sub⟩
theorem WalX.later (h : WalX w F FD p g l s A c) (hk : Keeps (fun _ => False) w w') : WalX w' (cutW F w.heap.size w'.heap.size) (cutW FD w.heap.size w'.heap.size) p g l s A c :=
  ⟨(h.log.mono (fun k hk hf => ⟨⟨hf.1, .inl hk⟩, fun hc => hf.2 hc.1⟩)).later hk, (h.dsk.mono (fun k hk hf => ⟨hf, .inl hk⟩)).later hk, fun k hl => ⟨h.clo k (Nat.le_trans hk.size hl), .inr hl⟩, fun k hf => ⟨h.sub k hf.1, hf.2⟩⟩
theorem WalX.mono {G : Nat → Prop} (h : WalX w F FD p g l s A c) (hs : ∀ k, F k → G k) : WalX w G FD p g l s A c :=
  ⟨h.log.mono (fun k _ hf => ⟨hs k hf.1, hf.2⟩), h.dsk, h.clo, fun k hf => hs k (h.sub k hf)⟩
theorem Wal.later (h : Wal w F p g l s) (hk : Keeps (fun _ => False) w w') : Wal w' (cutW F w.heap.size w'.heap.size) p g l s := by
  obtain ⟨FD, A, c, h⟩ := h; exact ⟨_, _, _, h.later hk⟩
theorem Wal.mono {G : Nat → Prop} (h : Wal w F p g l s) (hs : ∀ k, F k → G k) : Wal w G p g l s := by
  obtain ⟨FD, A, c, h⟩ := h; exact ⟨_, _, _, h.mono hs⟩
theorem Wal.still (h : Wal w F p g l s) (hk : Keeps (fun _ => False) w w') : Wal w' F p g l s := (h.later hk).mono (fun k hk => hk.1)
theorem Wal.log (h : Wal w F p g l s) : LogAt w F p g l := by
  obtain ⟨FD, A, c, h⟩ := h; exact ⟨A, c, h.log.mono (fun k _ hf => hf.1)⟩
theorem Wal.disk (h : Wal w F p g l s) : DskAt w F g s := by
  obtain ⟨FD, A, c, h⟩ := h; exact h.dsk.mono (fun k _ hf => h.sub k hf)
theorem Wal.clo (h : Wal w F p g l s) : ∀ k, w.heap.size ≤ k → F k := by
  obtain ⟨FD, A, c, h⟩ := h; exact fun k hk => h.sub k (h.clo k hk)
theorem Wal.ok (h : Wal w F p g l s) : Wl.Ok l := h.log.ok
end
def lnew (g k : Nat) : List Value := [.pointer (some ⟨g, 0, none⟩), .int .i64 (k : Int), .int .u64 0, .int .i64 0, .slice none 0 0, .int .i64 0, .int .i64 0, .int .i64 0]
theorem build_log (g k : Nat) (V : World) : (Instr.build 62 #[(0, .pointer (some ⟨g, 0, none⟩)), (1, .int .i64 (k : Int))]).run Try.prog V = .ok (.agg (lnew g k).toArray) V := by kernel_rfl
set_option maxRecDepth 100000 in
set_option maxHeartbeats 4000000 in
theorem open_any (w : World) (F : Nat → Prop) (g : Nat) (s : Dk.St) (hD : DskAt w F g s) (hF : ∀ k, w.heap.size ≤ k → F k) (k : Nat) (hk : k = (s.n - 2) / 2) (hn4 : 4 ≤ s.n) (hd : s.dead = false) (t a : Nat) (rows : List Wl.Bs) (ht : t < 4611686018427387904) (hrow : ∀ r ∈ rows, r.length ≤ 16384)
    (hT : ∀ y, Wl.Tops (256 * k) (Dk.rd s) 2 y → y = (t, a, (Wl.frames rows).length)) (hb : ∀ m, (Wl.frames rows).length ≤ 256 * m → m ≤ k → (Wl.ars (Dk.rd s) (2 + a * k) m).take (Wl.frames rows).length = Wl.frames rows) :
    Calls Try.prog 11 #[.pointer (some ⟨g, 0, none⟩)] w fun e w' => ∃ p, e = .returned (.tuple #[.pointer (some ⟨p, 0, none⟩), .int .i64 0]) ∧ w.heap.size ≤ p ∧ Wal w' F p g ⟨k, t, a, rows, rows.length, 0⟩ s ∧ Keeps (fun _ => False) w w' := by
  have hlen := len_any w F g s hD
  have hdead := dead_any w F g s hD
  rw [hd] at hdead
  have hn6 := hD.ok.hi
  have hk2 : k ≤ 32767 := by omega
  have e1 : IntKind.i64.wrap ((s.n : Int) - 2) = (s.n : Int) - 2 := IntWalk.i64_in _ (by omega)
  obtain ⟨N, hN⟩ : ∃ N, s.n = N := ⟨_, rfl⟩
  rw [hN] at hlen e1 hk hn4 hn6
  have hn4' : ¬ (N : Int) < 4 := by omega
  have hk1 : 1 ≤ k := by omega
  obtain ⟨p, hp⟩ : ∃ b, w.heap.size = b := ⟨_, rfl⟩
  obtain ⟨C0, hC0⟩ : ∃ C, (lnew g k).toArray = C := ⟨_, rfl⟩
  obtain ⟨W1, hW1⟩ : ∃ W, w.alloc (.cells C0 62) = W := ⟨_, rfl⟩
  have k1 : Keeps (fun _ => False) w W1 := by rw [← hW1]; exact (Keeps.refl _ _).alloc _
  have r1 : Row W1 p 62 (lnew g k) := by rw [← hW1, ← hp, ← hC0]; exact heap_alloc_new w _
  have hne := newest_any W1 F p g k s _ r1 (hD.later k1) hk2 (by omega) hd
  have HNE := Lib.hid hne
  have HLEN := Lib.hid hlen
  have HDEAD := Lib.hid hdead
  have HBL : Hid (∀ V : World, (Instr.build 62 #[(0, .pointer (some ⟨g, 0, none⟩)), (1, .int .i64 (((N : Int) - 2) / 2))]).run Try.prog V = .ok (.agg C0) V) := Lib.hid (fun V => by rw [← hC0, show (((N : Int) - 2) / 2) = (k : Int) by omega]; exact build_log g k V)
  have HR1 := Lib.hid r1
  have HK1 := Lib.hid k1
  have HDW := Lib.hid hD
  have HH := Lib.hid (And.intro hT (And.intro hb (And.intro hrow hF)))
  have HNN := Lib.hid (And.intro hN hn6)
  clear hlen hdead hn6 hne r1 k1 hD hT hb hrow hF hN hC0 hn4
  go_enter Try.func11, Try.ntmps11
  go_wp2_with fail
  refine HLEN.out.mono ?_
  rintro e wx ⟨rfl, hx⟩
  obtain rfl : w = wx := hx.symm
  go_wp2_with fail
  refine HDEAD.out.mono ?_
  rintro e wx ⟨rfl, hx⟩
  obtain rfl : w = wx := hx.symm
  go_wp2_with fail
  refine HLEN.out.mono ?_
  rintro e wx ⟨rfl, hx⟩
  obtain rfl : w = wx := hx.symm
  go_wp2_with (refine wpList_made (by rfl) 62 [(0, .tmp 14), (1, .tmp 18)] (by rfl) [(0, .pointer (some ⟨g, 0, none⟩)), (1, .int .i64 (((N : Int) - 2) / 2))] (by rfl) (.agg C0) HBL.out ?_)
  refine HNE.out.mono ?_
  rintro e w2 ⟨t1, a1, n1, rfl, htop, k2⟩
  obtain ⟨rfl, rfl, hn1⟩ : t = t1 ∧ a = a1 ∧ n1 = (Wl.frames rows).length := by
    have h := HH.out.1 _ htop
    simp only [Prod.mk.injEq] at h
    exact ⟨h.1.symm, h.2.1.symm, h.2.2⟩
  have hfit := htop.fits
  obtain ⟨n, hn⟩ : ∃ n, (Wl.frames rows).length = n := ⟨_, rfl⟩
  obtain rfl : n1 = n := hn1.trans hn
  simp only at hfit
  obtain ⟨CS, hCS⟩ : ∃ C, (scells t a n1).toArray = C := ⟨_, rfl⟩
  rw [hCS]
  obtain ⟨Z, hZ⟩ : ∃ Z, (scells 0 0 0).toArray = Z := ⟨_, rfl⟩
  have hz : ∀ V : World, (zeroValue 64).run Try.prog V = .ok (.agg Z) V := fun V => by rw [← hZ]; exact zero_super V
  obtain ⟨b5, hb5⟩ : ∃ b, w2.heap.size = b := ⟨_, rfl⟩
  obtain ⟨W3, hW3⟩ : ∃ W, w2.alloc (.cells Z 64) = W := ⟨_, rfl⟩
  have k3 : Keeps (fun _ => False) w2 W3 := by rw [← hW3]; exact (Keeps.refl _ _).alloc _
  have r3 : W3.heap[b5]? = some (.cells Z 64 (0, 0)) := by rw [← hW3, ← hb5]; exact heap_alloc_new w2 _
  obtain ⟨W4, hW4⟩ : ∃ W, W3.setRow b5 CS = W := ⟨_, rfl⟩
  have k4 : Keeps (fun k => k = b5) W3 W4 := by rw [← hW4]; exact Keeps.setRow _ _
  have r4 : Row W4 b5 64 (scells t a n1) := by rw [← hW4]; have := setRow_heap W3 b5 Z CS _ _ r3; rw [← hCS] at this; rw [← hCS]; exact this
  have hpb : p < b5 := by have := HR1.out.lt; have := k2.size; omega
  have hk24 : Keeps (fun _ => False) w2 W4 := k3.trans' k4 (fun i hi e => by omega)
  have k14 : Keeps (fun _ => False) W1 W4 := k2.trans hk24
  have r14 := HR1.out.keeps k14 id
  have hin : 2 + a * k + k ≤ s.n := by
    rw [HNN.out.1]
    rcases (show a = 0 ∨ a = 1 by omega) with rfl | rfl <;> omega
  have hrd := wread_any W4 F p g k a n1 t s _ r14 (HDW.out.later (HK1.out.trans k14)) hk2 hfit.2.1 hfit.2.2 hin hd (Wl.frames rows) (fun m h1 h2 => by have := HH.out.2.1 m (by rw [hn]; exact h1) h2; rw [hn] at this; exact this)
  have SCS : Hid ((Try.prog.info? 64).map (·.size) = some CS.size) := Lib.hid (by rw [← hCS]; exact size_super)
  have SCZ : Hid (Z.size = CS.size) := Lib.hid (by rw [← hCS, ← hZ]; rfl)
  have OCS : Hid (CS.all (·.oneCell') = true) := Lib.hid (by rw [← hCS]; exact scells_all t a n1)
  have hCS' : #[Value.int .u64 (t : Int), .int .i64 (a : Int), .int .i64 (n1 : Int)] = CS := hCS
  rw [hCS'] at hrd
  have HRD := Lib.hid hrd
  have HR3 := Lib.hid r3
  have HR4 := Lib.hid r4
  have HR14 := Lib.hid r14
  have HK14 := Lib.hid k14
  have HCS := Lib.hid hCS
  have HN := Lib.hid hn
  have HFIT := Lib.hid hfit
  have HPB := Lib.hid hpb
  clear hCS' hrd r3 r4 r14 k14 hk24 k2 k3 k4 hn hfit htop hn1 hin HNE hZ hpb
  go_wp2_with (first
    | (refine wpList_store_row (by rfl) 64 _ _ (by rfl) b5 CS (by rfl) (by rfl) 64 Z HR3.out SCS.out SCZ.out OCS.out ?_; rw [hW4])
    | (refine wpList_load_row (by rfl) 64 _ (by rfl) b5 (by rfl) 64 CS (0, 0) _ (by rw [← HCS.out]; exact HR4.out) Try.underlying64 rfl SCS.out ?_))
  refine HRD.out.mono ?_
  rintro e w5 ⟨A, c, rfl, hown, k5⟩
  have hun := unframed_any A c rows w5 (Src.of_own hown) (by rw [HN.out]; have := HFIT.out.2.2; omega) HH.out.2.2.1
  rw [HN.out] at hun
  have HUN := Lib.hid hun
  have HOWN := Lib.hid hown
  have HK5 := Lib.hid k5
  clear hun hown k5 HRD
  go_wp2_with fail
  refine HUN.out.mono ?_
  rintro e w6 ⟨A8, c8, rs, rfl, hbs, hro, k6⟩
  obtain ⟨W, hW⟩ : ∃ W, w6 = W := ⟨_, rfl⟩
  rw [hW] at k6 hro ⊢
  obtain ⟨m, hm⟩ : ∃ m, rows.length = m := ⟨_, rfl⟩
  rw [hm]
  have HRP := Lib.hid ((HR14.out.keeps HK5.out id).keeps k6 id)
  have r5 := (HR4.out.keeps HK5.out id).keeps k6 id
  have HB0 : Hid (∀ V, Keeps (fun k => k = p) W V → V.cell? ⟨b5, 0, none⟩ = some (.int .u64 (t : Int))) := Lib.hid (fun V hV => (r5.keeps hV (fun e => by have := HPB.out; omega)).cell 0)
  have HB1 : Hid (∀ V, Keeps (fun k => k = p) W V → V.cell? ⟨b5, 1, none⟩ = some (.int .i64 (a : Int))) := Lib.hid (fun V hV => (r5.keeps hV (fun e => by have := HPB.out; omega)).cell 1)
  have HOW : Hid (W.ownsRow W4.heap.size 5 1 (.slice A n1 c) n1 (bvs (Wl.frames rows))) := Lib.hid (k6.owns HOWN.out (fun _ _ => id))
  have HKW : Hid (Keeps (fun _ => False) w W) := Lib.hid (((HK1.out.trans HK14.out).trans HK5.out).trans k6)
  have HMM := Lib.hid hm
  clear hbs hro k6 r5 hm HUN HOWN HK5 HR4 hz hW
  go_wp2_with fail
  refine wp_region_stores 17 [10, 13, 16] [0, 1, 2, 3, 4, 5, 6, 7, 8, 9, 10, 11, 12, 13, 14, 15, 16] (fun V => Keeps (fun k => k = p) W V) (fun V => Row V p 62 (lnew g k)) (by kernel_rfl) (by kernel_rfl) (fun _ _ h k => h.trans' k (fun _ _ h => h.elim)) (Lasts.block _ _) ((Keeps.refl _ _).drew) (HRP.out) ?_
  refine T_value (get_op rfl) (by rfl) (by rfl) (.pointer (some ⟨p, 0, none⟩)) (fun _ _ => by go_simp) ?_
  simp only [Act.put, List.setIfInBounds_toArray, List.set_cons_zero, List.set_cons_succ]
  refine T_value (get_op rfl) (by rfl) (by rfl) (.pointer (some ⟨p, 0, none⟩)) (fun _ _ => by go_simp) ?_
  simp only [Act.put, List.setIfInBounds_toArray, List.set_cons_zero, List.set_cons_succ]
  refine T_value (get_op rfl) (by rfl) (by rfl) (.pointer (some ⟨p, 0, none⟩)) (fun _ _ => by go_simp) ?_
  simp only [Act.put, List.setIfInBounds_toArray, List.set_cons_zero, List.set_cons_succ]
  refine T_value (get_op rfl) (by rfl) (by rfl) (.pointer (some ⟨b5, 0, none⟩)) (fun _ _ => by go_simp) ?_
  simp only [Act.put, List.setIfInBounds_toArray, List.set_cons_zero, List.set_cons_succ]
  refine T_cell (get_op rfl) (by rfl) (by rfl) 60 (.tmp 49) (by rfl) ⟨b5, 0, none⟩ (by rfl) (.int .u64 (t : Int)) _ (fun V hV => HB0.out V hV) Try.underlying60 rfl ?_
  simp only [Act.put, List.setIfInBounds_toArray, List.set_cons_zero, List.set_cons_succ]
  refine T_value (get_op rfl) (by rfl) (by rfl) (.pointer (some ⟨b5, 1, none⟩)) (fun _ _ => by go_simp) ?_
  simp only [Act.put, List.setIfInBounds_toArray, List.set_cons_zero, List.set_cons_succ]
  refine T_cell (get_op rfl) (by rfl) (by rfl) 3 (.tmp 51) (by rfl) ⟨b5, 1, none⟩ (by rfl) (.int .i64 (a : Int)) _ (fun V hV => HB1.out V hV) Try.underlying3 rfl ?_
  simp only [Act.put, List.setIfInBounds_toArray, List.set_cons_zero, List.set_cons_succ]
  refine T_value (get_op rfl) (by rfl) (by rfl) (.slice A n1 c) (fun _ _ => by go_simp) ?_
  simp only [Act.put, List.setIfInBounds_toArray, List.set_cons_zero, List.set_cons_succ]
  refine T_value (get_op rfl) (by rfl) (by rfl) (.pointer (some ⟨p, 0, none⟩)) (fun _ _ => by go_simp) ?_
  simp only [Act.put, List.setIfInBounds_toArray, List.set_cons_zero, List.set_cons_succ]
  refine T_value (get_op rfl) (by rfl) (by rfl) (.pointer (some ⟨p, 2, none⟩)) (fun _ _ => by go_simp) ?_
  simp only [Act.put, List.setIfInBounds_toArray, List.set_cons_zero, List.set_cons_succ]
  refine T_cell_store (get_op rfl) (by rfl) (by rfl) 60 (.tmp 55) (.tmp 50) (by rfl) (by rfl) ⟨p, 2, none⟩ (by rfl) (.int .u64 (t : Int)) (by rfl) rfl rfl (by kernel_rfl) (fun V => Row V p 62 [.pointer (some ⟨g, 0, none⟩), .int .i64 (k : Int), .int .u64 (t : Int), .int .i64 0, .slice none 0 0, .int .i64 0, .int .i64 0, .int .i64 0]) (Lasts.block _ _) (fun V hb hf => ⟨⟨_, hf.cell 2⟩, hf.frozen 2, hb.trans ((Keeps.refl (fun k => k = p) V).setCell (p := ⟨p, 2, none⟩) (fun _ => rfl) _), hf.set 2 (.int .u64 (t : Int))⟩) ?_
  refine T_value (get_op rfl) (by rfl) (by rfl) (.pointer (some ⟨p, 0, none⟩)) (fun _ _ => by go_simp) ?_
  simp only [Act.put, List.setIfInBounds_toArray, List.set_cons_zero, List.set_cons_succ]
  refine T_value (get_op rfl) (by rfl) (by rfl) (.pointer (some ⟨p, 3, none⟩)) (fun _ _ => by go_simp) ?_
  simp only [Act.put, List.setIfInBounds_toArray, List.set_cons_zero, List.set_cons_succ]
  refine T_cell_store (get_op rfl) (by rfl) (by rfl) 3 (.tmp 57) (.tmp 52) (by rfl) (by rfl) ⟨p, 3, none⟩ (by rfl) (.int .i64 (a : Int)) (by rfl) rfl rfl (by kernel_rfl) (fun V => Row V p 62 [.pointer (some ⟨g, 0, none⟩), .int .i64 (k : Int), .int .u64 (t : Int), .int .i64 (a : Int), .slice none 0 0, .int .i64 0, .int .i64 0, .int .i64 0]) (Lasts.block _ _) (fun V hb hf => ⟨⟨_, hf.cell 3⟩, hf.frozen 3, hb.trans ((Keeps.refl (fun k => k = p) V).setCell (p := ⟨p, 3, none⟩) (fun _ => rfl) _), hf.set 3 (.int .i64 (a : Int))⟩) ?_
  refine T_value (get_op rfl) (by rfl) (by rfl) (.pointer (some ⟨p, 0, none⟩)) (fun _ _ => by go_simp) ?_
  simp only [Act.put, List.setIfInBounds_toArray, List.set_cons_zero, List.set_cons_succ]
  refine T_value (get_op rfl) (by rfl) (by rfl) (.pointer (some ⟨p, 4, none⟩)) (fun _ _ => by go_simp) ?_
  simp only [Act.put, List.setIfInBounds_toArray, List.set_cons_zero, List.set_cons_succ]
  refine T_cell_store (get_op rfl) (by rfl) (by rfl) 33 (.tmp 59) (.tmp 53) (by rfl) (by rfl) ⟨p, 4, none⟩ (by rfl) (.slice A n1 c) (by rfl) rfl rfl (by kernel_rfl) (fun V => Row V p 62 [.pointer (some ⟨g, 0, none⟩), .int .i64 (k : Int), .int .u64 (t : Int), .int .i64 (a : Int), .slice A n1 c, .int .i64 0, .int .i64 0, .int .i64 0]) (Lasts.block _ _) (fun V hb hf => ⟨⟨_, hf.cell 4⟩, hf.frozen 4, hb.trans ((Keeps.refl (fun k => k = p) V).setCell (p := ⟨p, 4, none⟩) (fun _ => rfl) _), hf.set 4 (.slice A n1 c)⟩) ?_
  refine T_nil ?_
  intro V9 k9 f9
  simp only [List.drop_succ_cons, List.drop_zero]
  have hfin : ∀ V', V' = (V9.setCell ⟨p, 5, none⟩ (.int .i64 (m : Int))).setCell ⟨p, 6, none⟩ (.int .i64 (m : Int)) → Wal V' F p g ⟨k, t, a, rows, rows.length, 0⟩ s ∧ Keeps (fun _ => False) w V' := by
    rintro V' rfl
    have hk' : Keeps (fun k => k = p) W ((V9.setCell ⟨p, 5, none⟩ (.int .i64 (m : Int))).setCell ⟨p, 6, none⟩ (.int .i64 (m : Int))) := (k9.setCell (p := ⟨p, 5, none⟩) (fun _ => rfl) _).setCell (p := ⟨p, 6, none⟩) (fun _ => rfl) _
    have hr' := (f9.set 5 (.int .i64 (m : Int))).set 6 (.int .i64 (m : Int))
    have hkw := HKW.out.trans' hk' (fun i hi e => by omega)
    have hpw : w.heap.size ≤ p := by omega
    have hown := hk'.owns HOW.out (fun k hk e => by have := (HOW.out.lt k hk).1; have := HR14.out.lt; omega)
    refine ⟨⟨cutW F w.heap.size _, A, c, ⟨⟨?_, ?_, ?_, ?_, ?_⟩, (HDW.out.mono (fun k hk hf => ⟨hf, .inl hk⟩)).later hkw, fun k hl => ⟨HH.out.2.2.2 k (Nat.le_trans hkw.size hl), .inr hl⟩, fun k hf => hf.1⟩⟩, hkw⟩
    · show Row _ p 62 [.pointer (some ⟨g, 0, none⟩), .int .i64 (k : Int), .int .u64 (t : Int), .int .i64 (a : Int), .slice A (Wl.frames rows).length c, .int .i64 (rows.length : Int), .int .i64 (rows.length : Int), .int .i64 0]
      rw [HN.out, HMM.out]
      exact hr'
    · show World.ownsRow _ 0 5 1 (.slice A (Wl.frames rows).length c) (Wl.frames rows).length (bvs (Wl.frames rows))
      rw [HN.out]
      exact own_base hown (Nat.zero_le _)
    · exact ⟨HH.out.2.2.2 p hpw, fun hc => by rcases hc.2 with h | h; omega; (have := hr'.lt; omega)⟩
    · show ∀ k, (Value.slice A (Wl.frames rows).length c).ownBlock = some k → _
      rw [HN.out]
      intro k hk
      have h1 := hown.lt k hk
      have h2 := HKW.out.size
      have h3 : w.heap.size ≤ W4.heap.size := by have := HK1.out.size; have := HK14.out.size; omega
      exact ⟨HH.out.2.2.2 k (by omega), fun hc => by rcases hc.2 with h | h <;> omega⟩
    · refine ⟨hk1, hk2, ht, HFIT.out.2.1, HH.out.2.2.1, ?_, Nat.le_refl _⟩
      show (Wl.frames rows).length ≤ 256 * k
      rw [HN.out]
      exact HFIT.out.2.2
  have c5 := f9.cell 5
  have c6 := f9.cell 6
  have g5 := f9.frozen 5
  have g6 := f9.frozen 6
  simp only [List.getElem?_cons_succ, List.getElem?_cons_zero] at c5 c6
  have HFIN := Lib.hid hfin
  have HPW : Hid (w.heap.size ≤ p) := Lib.hid (by omega)
  clear hfin k9 f9 HRP HB0 HB1 hp
  go_wp2
  go_ret2
  exact ⟨p, rfl, HPW.out, (HFIN.out _ rfl).1, (HFIN.out _ rfl).2⟩
end Go.Proofs.Ytnhegnncmjmafaa
