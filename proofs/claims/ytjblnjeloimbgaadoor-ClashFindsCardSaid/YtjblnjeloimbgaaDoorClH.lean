/-
  The highest step whose rows are different (clash.highest), found from the back by the library's iterator.
-/
import Derived.Test.YtjblnjeloimbgaaDoorWalkI
import Derived.Test.YtjblnjeloimbgaaDoorClP
import Derived.Scope
namespace Go.Proofs.YtjblnjeloimbgaaDoor
open Go.RowKit Go.BigFrame
set_option linter.unusedVariables false
attribute [local go_sem] Oper.semAt_some

def row0 : RowOf := (none, 0, [])
def ibEnc (rs : List RowOf) {m : Nat} (x : Fin m) : Array Value := #[.int .i64 (x.val : Int), rowSl (rs.getD x.val row0)]
/-- What comes, from the back. -/
def uptob (m k : Nat) : List (Fin m) := (List.finRange m).reverse.take k
theorem uptob_get (m k : Nat) (h : k < m) : (List.finRange m).reverse[k]? = some ⟨m - 1 - k, by omega⟩ := by
  rw [List.getElem?_reverse (by simpa using h), List.getElem?_eq_getElem (by simp; omega)]
  simp
theorem uptob_succ (m k : Nat) (h : k < m) : uptob m (k + 1) = uptob m k ++ [⟨m - 1 - k, by omega⟩] := by
  unfold uptob
  rw [List.take_add_one, uptob_get m k h]
  rfl
theorem uptob_length (m k : Nat) (h : k ≤ m) : (uptob m k).length = k := by simp [uptob, h]
theorem uptob_mem (m k : Nat) (h : k ≤ m) (x : Fin m) : x ∈ uptob m k ↔ m ≤ x.val + k := by
  induction k with
  | zero => simp [uptob]
  | succ k ih =>
    rw [uptob_succ m k (by omega), List.mem_append, ih (by omega), List.mem_singleton]
    constructor
    · rintro (h | h)
      · omega
      · subst h; show m ≤ m - 1 - k + (k + 1); omega
    · intro h
      by_cases e : m ≤ x.val + k
      · exact .inl e
      · exact .inr (Fin.ext (by show x.val = m - 1 - k; omega))
theorem bbackw_any (A : Option Addr) (n c : Nat) (w : World) : Calls Tryd.prog 35 #[.slice A n c] w fun e w' =>
    e = .returned (.func (.func 43) #[] #[.pointer (some ⟨w.heap.size, 0, none⟩)]) ∧ w' = w.alloc (.cells #[.slice A n c] 51) := by
  go_enter Tryd.func35, Tryd.ntmps35
  go_wp2
  go_ret
  exact ⟨rfl, rfl⟩
set_option maxRecDepth 100000 in
set_option maxHeartbeats 4000000 in
theorem bback1_in (n : Nat) (l Bs : Nat) (A : Option Addr) (c : Nat) (rs : List RowOf) (m : Nat) (hm : rs.length = m) (Kp : World → World → Prop) (hKr : ∀ W, Kp W W) (hKt : ∀ {A B C : World}, Kp A B → Kp B C → Kp A C) (J Jx : List (Fin m) → World → Prop)
    (hY : ∀ pre x W, J pre W → pre.length < m → YieldAt Fence.wide (n - 1) Tryd.prog l (ibEnc rs x) W fun e W' => (e = .returned (.bool true) ∧ J (pre ++ [x]) W' ∧ Kp W W') ∨ (e = .returned (.bool false) ∧ Jx (pre ++ [x]) W'))
    (W : World) (hK : ∀ V, Kp W V → V.cell? ⟨Bs, 0, none⟩ = some (.slice A m c) ∧ RowsAt V A rs) (hlen : m ≤ 1000) (h0 : J [] W) :
    CallsIn Fence.wide n Tryd.prog 43 #[.func (.yield l) #[] #[], .pointer (some ⟨Bs, 0, none⟩)] W fun e W' => (∃ v, e = .returned v) ∧
      ((∃ ys, ys = uptob m m ∧ J ys W') ∨ (∃ pre, (∃ k, k < m ∧ pre = uptob m (k + 1)) ∧ Jx pre W')) := by
  have hc0 := (hK W (hKr W)).1
  have HM := Lib.hid hm
  have HK := Lib.hid hK
  have HY := Lib.hid hY
  clear hK hY hm
  refine callsIn_of_wp Tryd.func43 rfl trivial ?_ rfl
  simp only [Tryd.ntmps43, List.size_toArray, List.length_cons, List.length_nil, Nat.reduceAdd, Nat.reduceSub, Array.replicate_succ, Array.replicate_zero, List.push_toArray, List.append_toArray, List.nil_append, List.cons_append]
  gi_wp2
  gi_loopw [3] (fun i wr => ∃ k : Nat, k ≤ m ∧ i = .int .i64 ((m : Int) - 1 - (k : Int)) ∧ J (uptob m k) wr ∧ Kp W wr) (fun i _ => (intOf i + 1).toNat)
  case atStart => exact ⟨0, Nat.zero_le _, by go_num, h0, hKr W⟩
  case round =>
    clear hc0
    obtain ⟨k, hk, rfl, hJs, hkp⟩ := hrel
    by_cases hlt : k < m
    · obtain ⟨p, hp⟩ : ∃ p : Nat, m - 1 - k = p := ⟨_, rfl⟩
      have hpi : (m : Int) - 1 - (k : Int) = (p : Int) := by omega
      rw [hpi]
      have hpm' : p < m := by omega
      obtain ⟨x, hx⟩ : ∃ x, rs.getD p row0 = x := ⟨_, rfl⟩
      have hsucc : uptob m (k + 1) = uptob m k ++ [⟨p, hpm'⟩] := by rw [uptob_succ m k hlt]; simp [hp]
      have hget : rs[p]? = some x := by
        rw [← hx, List.getD, List.getElem?_eq_getElem (by rw [HM.out]; omega)]
        rfl
      obtain ⟨hc1, hP⟩ := HK.out wr hkp
      obtain ⟨a, ha, hca⟩ := hP.cell p x hget
      subst ha
      obtain ⟨fn, tmps, assign, body, hy, hR⟩ := HY.out _ ⟨p, hpm'⟩ wr hJs (by rw [uptob_length m k hk]; exact hlt)
      unfold ibEnc rowSl at hy
      dsimp only at hy
      rw [hx] at hy
      have hca' : wr.cell? (a.add p) = some (.slice x.1 x.2.2.length x.2.1) := hca
      have hpm : (p : Int) < m := by omega
      have HSUCC := Lib.hid hsucc
      clear hget hP hca hsucc
      gi_wp2
      refine ⟨fun hh => (by simp [Fence.wide] at hh), hR.mono ?_⟩
      rintro e W3 (⟨rfl, hJ3, hk3⟩ | ⟨rfl, hJx3⟩)
      · gi_wp2
        go_roundw
        case rel => exact ⟨k + 1, by omega, by rw [← hpi]; go_num, by rw [HSUCC.out]; exact hJ3, hKt hkp hk3⟩
        case measure => simp [intOf]
      · gi_wp2
        refine bodyPost_ret (results_none rfl _ _ _) rfl ?_
        exact ⟨⟨_, rfl⟩, .inr ⟨_, ⟨k, hlt, HSUCC.out.symm⟩, hJx3⟩⟩
    · obtain rfl : k = m := by omega
      gi_wp2
      go_end0
      exact ⟨⟨_, rfl⟩, .inl ⟨_, rfl, hJs⟩⟩
theorem bback_stops (n Bs : Nat) (A : Option Addr) (c : Nat) (rs : List RowOf) (m : Nat) (hm : rs.length = m) (n₀ b4 : Nat) (w : World) (hn0 : w.heap.size = n₀) (hb4 : b4 < n₀) (hBs : Bs < n₀) (hne : Bs ≠ b4) (hc : w.cell? ⟨Bs, 0, none⟩ = some (.slice A m c)) (w0 : World) (hP : RowsAt w0 A rs) (hw0 : Keeps (fun _ => False) w0 w) (hb40 : w0.heap.size ≤ b4) (hlen : m ≤ 1000) :
    SeqStopsK Fence.wide n Tryd.prog 43 #[.pointer (some ⟨Bs, 0, none⟩)] (ibEnc rs (m := m)) (KB n₀ b4) (fun ys => ys = uptob m m) (fun pre => ∃ k, k < m ∧ pre = uptob m (k + 1)) m w := fun l J Jx W hW _ _ hY h0 => by
  have hWk : Keeps (fun _ => False) w W := Keeps.of_below hW
  refine bback1_in n l Bs A c rs m hm (KB n₀ b4) (fun W => Keeps.refl _ _) (fun h k => Keeps.trans h k) J Jx hY W (fun V hV => ?_) hlen h0
  have hk : Keeps (fun k => k = b4 ∨ n₀ ≤ k) w V := (hWk.mono (fun _ _ h => h.elim)).trans hV
  exact ⟨(hk.cell (p := ⟨Bs, 0, none⟩) (by show Bs < _; omega) (by show ¬ (Bs = b4 ∨ n₀ ≤ Bs); omega)).trans hc, hP.keeps ((hw0.mono (fun _ _ h => h.elim)).trans hk) (fun k hk h => by
    have := hw0.size
    omega)⟩
/-! ### The highest step -/
def Same (rs qs : List RowOf) {m : Nat} (x : Fin m) : Prop := (rs.getD x.val row0).2.2 = (qs.getD x.val row0).2.2
theorem highR_same : ∀ (s l m : List (List UInt8)), Cl.highR (s ++ l) (s ++ m) = Cl.highR l m
  | [], _, _ => rfl
  | x :: s, l, m => by
    show (if x = x then Cl.highR (s ++ l) (s ++ m) else _) = _
    rw [if_pos rfl]
    exact highR_same s l m
theorem ents_getD (rs : List RowOf) (k : Nat) (h : k < rs.length) : (ents rs)[k]? = some (rs.getD k row0).2.2 := by
  unfold ents
  rw [List.getElem?_map, List.getD_eq_getElem?_getD, List.getElem?_eq_getElem h]
  rfl
/-- What is found: all rows from place k + 1 on are the same, those at place k are not. -/
theorem high_at (rs qs : List RowOf) (k : Nat) (hk : k < rs.length) (hl : rs.length = qs.length) (hup : ∀ j, k < j → j < rs.length → (rs.getD j row0).2.2 = (qs.getD j row0).2.2) (hne : (rs.getD k row0).2.2 ≠ (qs.getD k row0).2.2) :
    Cl.high (ents rs) (ents qs) = ((rs.getD k row0).2.2, (qs.getD k row0).2.2) := by
  have hx := ents_getD rs k hk
  have hy := ents_getD qs k (by omega)
  obtain ⟨x, hxx⟩ : ∃ x, (rs.getD k row0).2.2 = x := ⟨_, rfl⟩
  obtain ⟨y, hyy⟩ : ∃ x, (qs.getD k row0).2.2 = x := ⟨_, rfl⟩
  rw [hxx] at hx hne ⊢
  rw [hyy] at hy hne ⊢
  have hd : (ents rs).drop (k + 1) = (ents qs).drop (k + 1) := by
    apply List.ext_getElem?
    intro j
    rw [List.getElem?_drop, List.getElem?_drop]
    by_cases hj : k + 1 + j < rs.length
    · rw [ents_getD rs _ hj, ents_getD qs _ (by omega), hup _ (by omega) hj]
    · rw [List.getElem?_eq_none (by rw [ents_length]; omega), List.getElem?_eq_none (by rw [ents_length]; omega)]
  have e1 : ents rs = (ents rs).take k ++ x :: (ents rs).drop (k + 1) := by
    conv => lhs; rw [← List.take_append_drop k (ents rs)]
    congr 1
    have hk' : k < (ents rs).length := by rw [ents_length]; exact hk
    rw [List.drop_eq_getElem_cons hk']
    congr 1
    exact (List.getElem?_eq_some_iff.1 hx).2
  have e2 : ents qs = (ents qs).take k ++ y :: (ents qs).drop (k + 1) := by
    conv => lhs; rw [← List.take_append_drop k (ents qs)]
    congr 1
    have hk' : k < (ents qs).length := by rw [ents_length]; omega
    rw [List.drop_eq_getElem_cons hk']
    congr 1
    exact (List.getElem?_eq_some_iff.1 hy).2
  rw [e1, e2, hd]
  unfold Cl.high
  rw [List.reverse_append, List.reverse_append, List.reverse_cons, List.reverse_cons, List.append_assoc, List.append_assoc, highR_same]
  show (if x = y then _ else _) = _
  rw [if_neg hne]
theorem high_same (rs qs : List RowOf) (hl : rs.length = qs.length) (hup : ∀ j, j < rs.length → (rs.getD j row0).2.2 = (qs.getD j row0).2.2) : Cl.high (ents rs) (ents qs) = ([], []) := by
  have e : ents rs = ents qs := by
    apply List.ext_getElem?
    intro j
    by_cases hj : j < rs.length
    · rw [ents_getD rs _ hj, ents_getD qs _ (by omega), hup _ hj]
    · rw [List.getElem?_eq_none (by rw [ents_length]; omega), List.getElem?_eq_none (by rw [ents_length]; omega)]
  rw [e]
  unfold Cl.high
  have := highR_same (ents qs).reverse [] []
  rw [List.append_nil] at this
  rw [this]
  rfl
/-- A row that is told. -/
structure RowG (w : World) (r : RowOf) : Prop where
  src : Src w r.1 (bvs r.2.2)
  cap : r.2.2.length ≤ r.2.1 ∧ r.2.1 ≤ 9223372036854775807
theorem RowG.none (w : World) : RowG w row0 := ⟨Src.nil _ _, Nat.le_refl _, by show 0 ≤ 9223372036854775807; omega⟩
theorem RowG.later {w w' : World} {r : RowOf} (h : RowG w r) (hk : Keeps (fun _ => False) w w') : RowG w' r := ⟨h.src.keeps hk (fun _ _ _ => id), h.cap⟩
theorem RowG.of_at {w : World} {A : Option Addr} {rs : List RowOf} (h : RowsAt w A rs) (k : Nat) : RowG w (rs.getD k row0) := by
  by_cases hk : k < rs.length
  · have : rs.getD k row0 ∈ rs := by rw [List.getD_eq_getElem?_getD, List.getElem?_eq_getElem hk]; exact List.getElem_mem _
    exact ⟨h.src _ this, h.cap _ this⟩
  · rw [List.getD_eq_getElem?_getD, List.getElem?_eq_none (by omega)]
    exact RowG.none w
set_option maxRecDepth 100000 in
set_option maxHeartbeats 4000000 in
theorem highest_any (A A2 : Option Addr) (c c2 : Nat) (rs qs : List RowOf) (m : Nat) (w : World) (hR : RowsAt w A rs) (hQ : RowsAt w A2 qs) (hm : rs.length = m) (hq : qs.length = m) (h1000 : m ≤ 1000) :
    Calls Tryd.prog 19 #[.slice A m c, .slice A2 m c2] w fun e w' => ∃ r s : RowOf, e = .returned (.agg #[rowSl r, rowSl s]) ∧ (r.2.2, s.2.2) = Cl.high (ents rs) (ents qs) ∧ RowG w' r ∧ RowG w' s ∧ Keeps (fun _ => False) w w' := by
  have hz : ∀ w : World, (zeroValue 29).run Tryd.prog w = .ok (.agg #[.slice none 0 0, .slice none 0 0]) w := fun _ => by kernel_rfl
  obtain ⟨b0, hb0⟩ : ∃ b, w.heap.size = b := ⟨_, rfl⟩
  obtain ⟨W1, hW1⟩ : ∃ V, w.alloc (.cells #[.slice A2 m c2] 51) = V := ⟨_, rfl⟩
  obtain ⟨W2, hW2⟩ : ∃ V, W1.alloc (.cells #[.slice none 0 0, .slice none 0 0] 29) = V := ⟨_, rfl⟩
  obtain ⟨W3, hW3⟩ : ∃ V, W2.alloc (.cells #[.slice none 0 0, .slice none 0 0] 29) = V := ⟨_, rfl⟩
  obtain ⟨W4, hW4⟩ : ∃ V, W3.alloc (.cells #[.slice A m c] 51) = V := ⟨_, rfl⟩
  have k1 : Keeps (fun _ => False) w W1 := by rw [← hW1]; exact (Keeps.refl _ _).alloc _
  have k2 : Keeps (fun _ => False) W1 W2 := by rw [← hW2]; exact (Keeps.refl _ _).alloc _
  have k3 : Keeps (fun _ => False) W2 W3 := by rw [← hW3]; exact (Keeps.refl _ _).alloc _
  have k4 : Keeps (fun _ => False) W3 W4 := by rw [← hW4]; exact (Keeps.refl _ _).alloc _
  have z1 : W1.heap.size = b0 + 1 := by rw [← hW1, World.size_alloc, hb0]
  have z2 : W2.heap.size = b0 + 2 := by rw [← hW2, World.size_alloc, z1]
  have z3 : W3.heap.size = b0 + 3 := by rw [← hW3, World.size_alloc, z2]
  have z4 : W4.heap.size = b0 + 4 := by rw [← hW4, World.size_alloc, z3]
  have r1 : Row W4 b0 51 [.slice A2 m c2] := (((by rw [← hW1, ← hb0]; exact heap_alloc_new w _ : Row W1 b0 51 [.slice A2 m c2]).keeps k2 id).keeps k3 id).keeps k4 id
  have r2 : W4.heap[b0 + 1]? = some (.cells #[.slice none 0 0, .slice none 0 0] 29 (0, 0)) := (k4.block _ (by omega) id).trans ((k3.block _ (by omega) id).trans (by rw [← hW2, ← z1]; exact heap_alloc_new W1 _))
  have r3 : W4.heap[b0 + 2]? = some (.cells #[.slice none 0 0, .slice none 0 0] 29 (0, 0)) := (k4.block _ (by omega) id).trans (by rw [← hW3, ← z2]; exact heap_alloc_new W2 _)
  have r4 : W4.heap[b0 + 3]? = some (.cells #[.slice A m c] 51 (0, 0)) := by rw [← hW4, ← z3]; exact heap_alloc_new W3 _
  have k04 : Keeps (fun _ => False) w W4 := ((k1.trans k2).trans k3).trans k4
  have hseq := bback_stops (3 - 1) (b0 + 3) A c rs m hm (b0 + 4) (b0 + 2) W4 z4 (by omega) (by omega) (by omega) (by rw [cell_of_row W4 (b0 + 3) 0 _ _ _ r4]; rfl) w hR k04 (by omega) h1000
  have hbw := bbackw_any A m c W3
  rw [hW4, z3] at hbw
  have HSEQ := Lib.hid hseq
  have HBW := Lib.hid hbw
  have R1 := Lib.hid r1
  have R2 := Lib.hid r2
  have R3 := Lib.hid r3
  have K04 := Lib.hid k04
  have Z4 := Lib.hid z4
  have HR := Lib.hid hR
  have HQ := Lib.hid hQ
  have HM := Lib.hid hm
  have HQL := Lib.hid hq
  have HB0 := Lib.hid hb0
  clear hseq hbw r1 r2 r3 r4 k1 k2 k3 k4 k04 z4 hR hQ hm hq
  refine callsIn_wide.1 (callsIn_of_wp_marks (n := 3) Tryd.func19 rfl trivial ((wpIn_wide (n := 3)).2 ?_) rfl)
  simp only [Tryd.ntmps19, List.size_toArray, List.length_cons, List.length_nil, Nat.reduceAdd, Nat.reduceSub, Array.replicate_succ, Array.replicate_zero, List.push_toArray, List.append_toArray, List.nil_append, List.cons_append]
  go_wp2_with fail
  refine wp_scope_straight ?_
  go_wp2_with fail
  refine wp_label ?_
  go_wp2_with fail
  refine HBW.out.mono ?_
  rintro e wx ⟨rfl, hx⟩
  obtain rfl : W4 = wx := hx.symm
  go_wp2_with fail
  have hsz4 := Z4.out
  refine (wpIn_wide (n := 3)).1 ?_
  refine wpIn_rangeFunc_ownH (n := 3) rfl (by omega) (gf := 43) (lb := #[.pointer (some ⟨b0 + 3, 0, none⟩)]) rfl trivial (enters_of Tryd.func43 (by kernel_rfl) rfl) HSEQ.out (fun h k => Keeps.trans h k)
    (fun V l o o' hl h _ _ => kb_putObj V l o' (by omega)) (Below.refl _ _) (fun _ => rfl)
    (fun pre V => V.heap[b0 + 2]? = some (.cells #[.slice none 0 0, .slice none 0 0] 29 (0, 0)) ∧ KB (b0 + 4) (b0 + 2) W4 V ∧ ∀ x ∈ pre, Same rs qs x)
    (fun cd pre V => cd = .exit 0 ∧ ∃ pre0 x, pre = pre0 ++ [x] ∧ (∀ y ∈ pre0, Same rs qs y) ∧ ¬ Same rs qs x ∧ V.heap[b0 + 2]? = some (.cells #[rowSl (rs.getD x.val row0), rowSl (qs.getD x.val row0)] 29 (0, 0)) ∧ KB (b0 + 4) (b0 + 2) W4 V)
    (fun s X Y row hs hg hr => ⟨(hg.block (b0 + 2) (Array.getElem?_eq_some_iff.1 hs.1).1 (fun e => by have := (hr _ e.symm).1; omega)).trans hs.1, kb_grown hs.2.1 hg (fun k e => by have := (hr k e).1; omega), hs.2.2⟩)
    (fun cd s X Y row hs hg hr => by
      obtain ⟨h1, pre0, x, h2, h3, h4, h5, h6⟩ := hs
      exact ⟨h1, pre0, x, h2, h3, h4, (hg.block (b0 + 2) (Array.getElem?_eq_some_iff.1 h5).1 (fun e => by have := (hr _ e.symm).1; omega)).trans h5, kb_grown h6 hg (fun k e => by have := (hr k e).1; omega)⟩)
    ⟨R3.out, Keeps.refl _ _, fun x hx => by cases hx⟩
    (fun x a' V => a' = { tmps := #[.slice A m c, .slice A2 m c2, undef, .pointer (some ⟨b0, 0, none⟩), .pointer (some ⟨b0 + 1, 0, none⟩), .pointer (some ⟨b0 + 2, 0, none⟩), .int .i64 (x.val : Int), rowSl (rs.getD x.val row0), undef, .slice A m c, .func (.func 43) #[] #[.pointer (some ⟨b0 + 3, 0, none⟩)], .int .i64 (x.val : Int), rowSl (rs.getD x.val row0), undef, undef, undef, undef, undef, undef, undef, undef, undef, undef, undef, undef, undef], defers := [] })
    (fun x a' s X Y row hs hg hr => hs) ?assign ?body ?done ?stop
  case assign =>
    intro l pre x V K hI hK
    have HK := Lib.hid hK
    have HI := Lib.hid hI
    clear hK hI
    simp only [ibEnc]
    gi_wp2
    exact HK.out _ _ (KeepsFrom.refl _ _) (Keeps.refl _ _) HI.out rfl
  case body =>
    rintro l pre x a' V hl _ hI rfl _
    have hk : Keeps (fun k => k = b0 + 2 ∨ b0 + 4 ≤ k) W4 V := hI.2.1
    have hwk : Keeps (fun _ => False) w V := K04.out.trans' hk (fun i hi e => by have := HB0.out; omega)
    have hcb : V.cell? ⟨b0, 0, none⟩ = some (.slice A2 m c2) := (R1.out.keeps hk (by omega)).cell 0
    have hQV := HQ.out.keeps hwk (fun _ _ => id)
    have hRV := HR.out.keeps hwk (fun _ _ => id)
    obtain ⟨p, hp⟩ := x
    obtain ⟨r, hr⟩ : ∃ r, rs.getD p row0 = r := ⟨_, rfl⟩
    obtain ⟨s, hs⟩ : ∃ r, qs.getD p row0 = r := ⟨_, rfl⟩
    have hqp : qs[p]? = some s := by rw [← hs, List.getD_eq_getElem?_getD, List.getElem?_eq_getElem (by rw [HQL.out]; exact hp)]; rfl
    obtain ⟨a2, ha2, hca⟩ := hQV.cell p s hqp
    subst ha2
    have gr := RowG.of_at hRV p
    have gs := RowG.of_at hQV p
    rw [hr] at gr
    rw [hs] at gs
    simp only [hr]
    have hsame : Same rs qs (⟨p, hp⟩ : Fin m) ↔ r.2.2 = s.2.2 := by unfold Same; rw [hr, hs]
    have hcmp := compare_any r.1 s.1 r.2.1 s.2.1 r.2.2 s.2.2 V gr.src gs.src
    have hca' : V.cell? (a2.add p) = some (.slice s.1 s.2.2.length s.2.1) := hca
    have HCMP := Lib.hid hcmp
    have HSAME := Lib.hid hsame
    have HI := Lib.hid hI
    have HRS := Lib.hid (And.intro hr hs)
    have hfound : Row V (b0 + 2) 29 [.slice none 0 0, .slice none 0 0] := hI.1
    have hc20 := hfound.cell 0
    have hc21 := hfound.cell 1
    have hf20 := hfound.frozen 0
    have hf21 := hfound.frozen 1
    have hrow2 := (hfound.set 0 (rowSl r)).set 1 (rowSl s)
    have HROW2 := Lib.hid hrow2
    simp only [List.getElem?_cons_zero, List.getElem?_cons_succ] at hc20 hc21
    have hpm : (p : Int) < m := by omega
    unfold rowSl
    clear hcmp hsame hI hk hwk hQV hRV gr gs hqp hca hr hs hfound hrow2
    gi_wp2
    refine ⟨trivial, CallsIn.inRound l (callsIn_wide.2 (HCMP.out.mono ?_))⟩
    rintro e w9 ⟨⟨z, rfl, hz0⟩, h9⟩
    obtain rfl : V = w9 := h9.symm
    by_cases hzz : z = 0
    · have hsm := HSAME.out.2 (hz0.1 hzz)
      have HSM := Lib.hid hsm
      subst hzz
      clear HCMP hz0 hsm HSAME
      gi_wp2
      refine ⟨KeepsFrom.refl _ _, Keeps.refl _ _, HI.out.1, HI.out.2.1, fun y hy => ?_⟩
      rcases List.mem_append.1 hy with hy | hy
      · exact HI.out.2.2 y hy
      · rw [List.mem_singleton] at hy; subst hy; exact HSM.out
    · have hns : ¬ Same rs qs (⟨p, hp⟩ : Fin m) := fun h => hzz (hz0.2 (HSAME.out.1 h))
      have HNS := Lib.hid hns
      clear HCMP hz0 hns HSAME
      gi_wp2
      have hkk : Keeps (fun k => k = b0 + 2) V ((V.setCell ⟨b0 + 2, 0, none⟩ (rowSl r)).setCell ⟨b0 + 2, 1, none⟩ (rowSl s)) := ((Keeps.refl (fun k => k = b0 + 2) V).setCell (p := ⟨b0 + 2, 0, none⟩) (fun _ => rfl) _).setCell (p := ⟨b0 + 2, 1, none⟩) (fun _ => rfl) _
      refine ⟨kf_keeps hkk (fun k hk e => by omega), rfl, pre, ⟨p, hp⟩, rfl, HI.out.2.2, HNS.out, ?_, Keeps.trans HI.out.2.1 (hkk.mono (fun _ _ h => .inl h))⟩
      rw [HRS.out.1, HRS.out.2]
      exact HROW2.out
  case done =>
    intro D xs V hD hxs hI hdef
    subst hxs
    have hI1 := hI.1
    have hkb : Keeps (fun k => k = b0 + 2 ∨ b0 + 4 ≤ k) W4 V := hI.2.1
    have hfin : (([], []) : List UInt8 × List UInt8) = Cl.high (ents rs) (ents qs) := (high_same rs qs (by rw [HM.out, HQL.out]) (fun j hj => hI.2.2 ⟨j, by rw [← HM.out]; exact hj⟩ ((uptob_mem m m (Nat.le_refl _) _).2 (by simp)))).symm
    clear hI
    obtain ⟨CX, hCX⟩ : ∃ C : Array Value, #[.slice none 0 0, .slice none 0 0] = C := ⟨_, rfl⟩
    obtain ⟨CO, hCO⟩ : ∃ C : Array Value, #[.slice none 0 0, .slice none 0 0] = C := ⟨_, rfl⟩
    have hI1 : V.heap[b0 + 2]? = some (.cells CX 29 (0, 0)) := by rw [← hCX]; exact hI1
    have HI1 := Lib.hid hI1
    have R2V : Hid (V.heap[b0 + 1]? = some (.cells CO 29 (0, 0))) := Lib.hid ((hkb.block _ (Array.getElem?_eq_some_iff.1 R2.out).1 (by omega)).trans (by rw [← hCO]; exact R2.out))
    have KV : Hid (Keeps (fun _ => False) w V) := Lib.hid (K04.out.trans' hkb (fun i hi e => by have := HB0.out; omega))
    have HD := Lib.hid hdef
    have S2 : Hid ((Tryd.prog.info? 29).map (·.size) = some CX.size) := Lib.hid (by rw [← hCX]; show _ = some 2; kernel_rfl)
    have ZX : Hid (CO.size = CX.size) := Lib.hid (by subst hCX; subst hCO; rfl)
    have OX : Hid (CX.all (·.oneCell') = true) := Lib.hid (by rw [← hCX]; simp [Value.oneCell'])
    have HCX := Lib.hid hCX
    have HFIN := Lib.hid hfin
    have HDD := Lib.hid hD
    clear hI1 hkb hdef hfin hD hCX hCO hz
    go_wp2_with (first
      | (refine wpList_load_row rfl 29 _ rfl (b0 + 2) rfl 29 CX (0, 0) _ HI1.out Tryd.underlying29 rfl S2.out ?_)
      | (refine wpList_store_row rfl 29 _ _ rfl (b0 + 1) CX rfl rfl 29 CO R2V.out S2.out ZX.out OX.out ?_))
    have hV2 := Keeps.setRow (w := V) (b0 + 1) CX
    have hDb : b0 + 4 ≤ D := by have := HDD.out; omega
    have hD2 : (V.setRow (b0 + 1) CX).heap[D]? = some (.deferred (some [])) := (setRow_other V (b0 + 1) D _ (by omega)).trans HD.out
    refine ⟨by simp, .inl ⟨_, _, rfl, run_takeDeferred hD2, ?_⟩⟩
    have hk2 : Keeps (fun k => k = D) (V.setRow (b0 + 1) CX) ((V.setRow (b0 + 1) CX).putObj D (.deferred none)) := ⟨rfl, rfl, rfl, by simp [World.putObj], fun k hk hs => World.putObj_heap_other hs⟩
    have hr2 := (hk2.block (b0 + 1) (by have := (Array.getElem?_eq_some_iff.1 R2V.out).1; simp [World.setRow]; omega) (by show ¬ b0 + 1 = D; omega)).trans (setRow_heap V (b0 + 1) _ CX _ _ R2V.out)
    refine ⟨_, results_cell_row rfl _ _ (b0 + 1) 29 CX (0, 0) _ rfl hr2 Tryd.underlying29 rfl S2.out, ?_⟩
    have hkk : Keeps (fun _ => False) w ((V.setRow (b0 + 1) CX).putObj D (.deferred none)) := (KV.out.trans' hV2 (fun i hi h => by have := HB0.out; omega)).trans' hk2 (fun i hi h => by have := HB0.out; omega)
    exact ⟨row0, row0, by rw [← HCX.out]; rfl, HFIN.out, RowG.none _, RowG.none _, hkk⟩
  case stop =>
    rintro D cd pre V hD ⟨k, hk, hpre⟩ ⟨rfl, pre0, x, hp0, h1, h2, hI1, hkb⟩ hdef
    have hkb : Keeps (fun k => k = b0 + 2 ∨ b0 + 4 ≤ k) W4 V := hkb
    rw [hpre, uptob_succ m k hk] at hp0
    obtain ⟨e1, e2⟩ := List.append_inj' hp0 rfl
    injection e2 with e2
    have hxv : x.val = m - 1 - k := by rw [← e2]
    have hfin := high_at rs qs x.val (by rw [HM.out]; exact x.2) (by rw [HM.out, HQL.out]) (fun j hj hjl => h1 ⟨j, by rw [← HM.out]; exact hjl⟩ (by rw [← e1]; exact (uptob_mem m k (by omega) _).2 (by show m ≤ j + k; omega))) h2
    have grs := RowG.of_at HR.out x.val
    have gqs := RowG.of_at HQ.out x.val
    obtain ⟨r, hr⟩ : ∃ r, rs.getD x.val row0 = r := ⟨_, rfl⟩
    obtain ⟨s, hs⟩ : ∃ r, qs.getD x.val row0 = r := ⟨_, rfl⟩
    rw [hr, hs] at hfin hI1
    rw [hr] at grs
    rw [hs] at gqs
    have hfin := hfin.symm
    clear h1 h2 hp0 e1 e2 hxv hr hs hpre
    obtain ⟨CX, hCX⟩ : ∃ C : Array Value, #[rowSl r, rowSl s] = C := ⟨_, rfl⟩
    obtain ⟨CO, hCO⟩ : ∃ C : Array Value, #[.slice none 0 0, .slice none 0 0] = C := ⟨_, rfl⟩
    have hI1 : V.heap[b0 + 2]? = some (.cells CX 29 (0, 0)) := by rw [← hCX]; exact hI1
    have HI1 := Lib.hid hI1
    have R2V : Hid (V.heap[b0 + 1]? = some (.cells CO 29 (0, 0))) := Lib.hid ((hkb.block _ (Array.getElem?_eq_some_iff.1 R2.out).1 (by omega)).trans (by rw [← hCO]; exact R2.out))
    have KV : Hid (Keeps (fun _ => False) w V) := Lib.hid (K04.out.trans' hkb (fun i hi e => by have := HB0.out; omega))
    have HD := Lib.hid hdef
    have S2 : Hid ((Tryd.prog.info? 29).map (·.size) = some CX.size) := Lib.hid (by rw [← hCX]; show _ = some 2; kernel_rfl)
    have ZX : Hid (CO.size = CX.size) := Lib.hid (by subst hCX; subst hCO; rfl)
    have OX : Hid (CX.all (·.oneCell') = true) := Lib.hid (by rw [← hCX]; simp [rowSl, Value.oneCell'])
    have HCX := Lib.hid hCX
    have HFIN := Lib.hid hfin
    have HDD := Lib.hid hD
    clear hI1 hkb hdef hfin hD hCX hCO hz
    gi_wp2
    go_wp2_with (first
      | (refine wpList_load_row rfl 29 _ rfl (b0 + 2) rfl 29 CX (0, 0) _ HI1.out Tryd.underlying29 rfl S2.out ?_)
      | (refine wpList_store_row rfl 29 _ _ rfl (b0 + 1) CX rfl rfl 29 CO R2V.out S2.out ZX.out OX.out ?_))
    have hV2 := Keeps.setRow (w := V) (b0 + 1) CX
    have hDb : b0 + 4 ≤ D := by have := HDD.out; omega
    have hD2 : (V.setRow (b0 + 1) CX).heap[D]? = some (.deferred (some [])) := (setRow_other V (b0 + 1) D _ (by omega)).trans HD.out
    refine ⟨by simp, .inl ⟨_, _, rfl, run_takeDeferred hD2, ?_⟩⟩
    have hk2 : Keeps (fun k => k = D) (V.setRow (b0 + 1) CX) ((V.setRow (b0 + 1) CX).putObj D (.deferred none)) := ⟨rfl, rfl, rfl, by simp [World.putObj], fun k hk hs => World.putObj_heap_other hs⟩
    have hr2 := (hk2.block (b0 + 1) (by have := (Array.getElem?_eq_some_iff.1 R2V.out).1; simp [World.setRow]; omega) (by show ¬ b0 + 1 = D; omega)).trans (setRow_heap V (b0 + 1) _ CX _ _ R2V.out)
    refine ⟨_, results_cell_row rfl _ _ (b0 + 1) 29 CX (0, 0) _ rfl hr2 Tryd.underlying29 rfl S2.out, ?_⟩
    have hkk : Keeps (fun _ => False) w ((V.setRow (b0 + 1) CX).putObj D (.deferred none)) := (KV.out.trans' hV2 (fun i hi h => by have := HB0.out; omega)).trans' hk2 (fun i hi h => by have := HB0.out; omega)
    exact ⟨r, s, by rw [← HCX.out], HFIN.out, grs.later hkk, gqs.later hkk, hkk⟩
end Go.Proofs.YtjblnjeloimbgaaDoor
