/-
  ScoreSets' walk.
-/
import Derived.Test.YtdihkbkcefjeoaaScW
import Derived.Test.YtdihkbkcefjeoaaRowU
import Derived.Test.YtdihkbkcefjeoaaEq
namespace Go.Proofs.Ytdihkbkcefjeoaa
open Go.RowKit Go.BigFrame
set_option linter.unusedVariables false
set_option linter.unusedSimpArgs false

theorem wpList_made_w {P : Program} {w : World} {ops : Array Oper} {rest : List Oper} {o : Oper} {a : Act} {Q : Exit → Act → World → Prop} (hw : Region.wanted o (yielded ops a.tmps) = true) (t : TypeId) (parts : List (Nat × Operand)) (ho : o.op = .build t parts.toArray) (vs : List (Nat × Value)) (hx : parts.map (fun (i, x) => (i, a.eval x)) = vs)
    (v : Value) (hrun : ∀ w, (Instr.build t vs.toArray).run P w = .ok v w) (h : wpList P ops Q rest (a.put o.dst v) w) : wpList P ops Q (o :: rest) a w := by
  refine wpList_wanted hw fun _ hK => ?_
  unfold Oper.wp execOp
  simp only [ho, List.map_toArray, hx, Sem.run_bind, Sem.run_pure, Result.andThen_ok, hrun]
  exact hK _ _ h
theorem eq_peer_zero (V : World) : (binOp .eql 40 (.agg (pc (0, 0))) (.agg (pc (0, 0)))).run Try.prog V = .ok (.bool true) V := by kernel_rfl
theorem put_get {s : Sc.Tb} {i : Nat} (h : i < s.ps.length) (p : Int × Int) : Sc.get (Sc.put s (i : Int) p) (i : Int) = p := by
  refine Sc.get_nat ?_
  show (s.ps.set (Int.toNat (i : Int)) p)[i]? = some p
  rw [Int.toNat_natCast, List.getElem?_set_self h]
theorem new_get (many : Nat) (l h k : Int) : Sc.get (Sc.new many l h) k = (0, 0) := by
  unfold Sc.get Sc.new
  split
  · rw [List.getD_eq_getElem?_getD, List.getElem?_replicate]
    split <;> rfl
  · rfl
set_option maxRecDepth 100000 in
set_option maxHeartbeats 4000000 in
theorem sets_go (l h : Nat) (x y k : Int) (W : World) (hl : l ≤ 255) (hh : h ≤ 255) :
    Calls Try.prog 6 #[.int .u8 (l : Int), .int .u8 (h : Int), .int .i64 x, .int .i64 y, .int .i64 k] W fun e w' => e = .returned (.bool true) ∧ Keeps (fun _ => False) W w' := by
  obtain ⟨Z, hZ⟩ : ∃ Z, pc (0, 0) = Z := ⟨_, rfl⟩
  have hz : ∀ V : World, (zeroValue 40).run Try.prog V = .ok (.agg Z) V := fun V => by rw [← hZ]; exact zero_peer V
  have HBN : Hid (∀ V : World, (Instr.build 40 #[]).run Try.prog V = .ok (.agg Z) V) := Lib.hid (fun V => by rw [← hZ]; exact build_peer_none V)
  have HEZ : Hid (∀ V : World, (binOp .eql 40 (.agg Z) (.agg Z)).run Try.prog V = .ok (.bool true) V) := Lib.hid (fun V => by rw [← hZ]; exact eq_peer_zero V)
  obtain ⟨D, hD⟩ : ∃ D, pc (x, y) = D := ⟨_, rfl⟩
  have HBD : Hid (∀ V : World, (Instr.build 40 #[(0, .int .i64 x), (1, .int .i64 y)]).run Try.prog V = .ok (.agg D) V) := Lib.hid (fun V => by rw [← hD]; exact build_peer x y V)
  have SZ : Hid ((Try.prog.info? 40).map (·.size) = some Z.size) := Lib.hid (by rw [← hZ]; exact size_Peer)
  have OZ : Hid (Z.all (·.oneCell') = true) := Lib.hid (by rw [← hZ]; exact pc_one _)
  have SD : Hid ((Try.prog.info? 40).map (·.size) = some D.size) := Lib.hid (by rw [← hD]; exact size_Peer)
  have SZD : Hid (Z.size = D.size) := Lib.hid (by rw [← hD, ← hZ]; rfl)
  have OD : Hid (D.all (·.oneCell') = true) := Lib.hid (by rw [← hD]; exact pc_one _)
  have HZ := Lib.hid hZ
  have HD := Lib.hid hD
  have HAW := Lib.hid (awake13_any W)
  obtain ⟨L, hL⟩ : ∃ L : Nat, l + 1 = L := ⟨_, rfl⟩
  obtain ⟨H, hH⟩ : ∃ L : Nat, h + 1 = L := ⟨_, rfl⟩
  have HE1 : Hid ((l : Int) + 1 = (L : Int)) := Lib.hid (by omega)
  have HE2 : Hid ((h : Int) + 1 = (H : Int)) := Lib.hid (by omega)
  have HLH : Hid ((1 ≤ (L : Int) ∧ (L : Int) ≤ 1000) ∧ (1 ≤ (H : Int) ∧ (H : Int) ≤ 1000)) := Lib.hid (by omega)
  clear hZ hD hL hH
  go_enter Try.func6, Try.ntmps6
  go_wp2_with fail
  refine HAW.out.mono ?_
  rintro e w0 ⟨rfl, k0⟩
  have hn := new_any 4 (L : Int) (H : Int) w0 (by omega) HLH.out.1 HLH.out.2
  rw [show ((4 : Nat) : Int) = 4 from rfl] at hn
  have HN := Lib.hid hn
  have K0 := Lib.hid k0
  clear hn k0
  go_wp2_with fail
  rw [HE1.out, HE2.out]
  refine HN.out.mono ?_
  rintro e w1 ⟨g, b, rfl, hg, hb, t1, k1⟩
  obtain ⟨s0, hs0⟩ : ∃ s, Sc.new 4 (L : Int) (H : Int) = s := ⟨_, rfl⟩
  rw [hs0] at t1
  have HS0 := Lib.hid hs0
  have hset := set_tab w1 g b s0 k (x, y) t1
  rw [HD.out] at hset
  have HSET := Lib.hid hset
  have HGB : Hid (W.heap.size ≤ g ∧ W.heap.size ≤ b) := Lib.hid (by have := K0.out.size; omega)
  have K1 := Lib.hid (K0.out.trans k1)
  clear hs0 hset t1 k1 hg hb HN HE1 HE2 HAW
  go_wp2_with (first
    | (refine wpList_made (by rfl) 40 [(0, .tmp 39), (1, .tmp 40)] (by rfl) [(0, .int .i64 x), (1, .int .i64 y)] (by rfl) (.agg D) HBD.out ?_)
    | fail)
  refine HSET.out.mono ?_
  rintro e w2 ⟨rfl, t2, k2⟩
  have K2 : Hid (Keeps (fun _ => False) W w2) := Lib.hid (K1.out.trans' k2 (fun i hi e => by have := HGB.out; omega))
  have hpe := peer_any w2 g b _ k t2
  have haw : ∀ V, Keeps (fun _ => False) w2 V → Calls Try.prog 20 #[.pointer (some ⟨g, 0, none⟩), .int .i64 k] V fun e w' => e = .returned (.bool (decide (0 < (Sc.get (Sc.set s0 k (x, y)) k).2))) ∧ Keeps (fun _ => False) V w' := fun V hV => taway_any V g b _ k (t2.later hV)
  have hfd : Sc.fits s0 k (x, y) = decide ((0 ≤ k ∧ k < 4) ∧ (0 ≤ x ∧ x ≤ (L : Int) - 1) ∧ (0 ≤ y ∧ y ≤ (H : Int))) := by rw [← HS0.out]; rfl
  have hhd : Sc.has (Sc.set s0 k (x, y)) k = decide (0 ≤ k ∧ k < 4) := by
    unfold Sc.has Sc.set
    split
    · rw [← HS0.out]; simp [Sc.put, Sc.new]
    · rw [← HS0.out]; rfl
  cases hq : Sc.fits s0 k (x, y) with
  | true =>
    have hse : Sc.setE s0 k (x, y) = 0 := by unfold Sc.setE; rw [if_pos hq]
    have hst : Sc.set s0 k (x, y) = Sc.put s0 k (x, y) := by unfold Sc.set; rw [if_pos hq]
    rw [hq] at hfd
    obtain ⟨h1, h2, h3⟩ := of_decide_eq_true hfd.symm
    have hge : Sc.get (Sc.put s0 k (x, y)) k = (x, y) := by
      obtain ⟨i, rfl⟩ := Int.eq_ofNat_of_zero_le h1.1
      exact put_get (by rw [← HS0.out]; show i < (List.replicate 4 _).length; rw [List.length_replicate]; omega) _
    rw [decide_eq_true h1] at hhd
    rw [hhd, hst, hge, HD.out] at hpe
    rw [hst, hge] at haw
    rw [hse]
    have d1 : decide (k ≥ 0) = true := decide_eq_true h1.1
    have d2 : decide (k < 4) = true := decide_eq_true h1.2
    have d3 : decide (x ≥ 0) = true := decide_eq_true h2.1
    have d4 : decide (x < (L : Int)) = true := decide_eq_true (by omega)
    have d5 : decide (y ≥ 0) = true := decide_eq_true h3.1
    have d6 : decide (y ≤ (H : Int)) = true := decide_eq_true h3.2
    have HPE := Lib.hid hpe
    have HAWA := Lib.hid haw
    clear hpe haw hfd hhd hq hse hst h1 h2 h3 hge t2 k2
    go_wp2_with fail
    refine HPE.out.mono ?_
    rintro e w3 ⟨rfl, k3⟩
    obtain ⟨b3, hb3⟩ : ∃ x, w3.heap.size = x := ⟨_, rfl⟩
    obtain ⟨W4, hW4⟩ : ∃ V, w3.alloc (.cells Z 40) = V := ⟨_, rfl⟩
    have r4 : W4.heap[b3]? = some (.cells Z 40 (0, 0)) := by rw [← hW4, ← hb3]; exact heap_alloc_new w3 _
    have k4 : Keeps (fun _ => False) w3 W4 := by rw [← hW4]; exact (Keeps.refl _ _).alloc _
    obtain ⟨W5, hW5⟩ : ∃ V, W4.setRow b3 D = V := ⟨_, rfl⟩
    have k5 : Keeps (fun _ => False) w3 W5 := k4.trans' (T := fun k => k = b3) (by rw [← hW5]; exact Keeps.setRow _ _) (fun i hi e => by omega)
    have r5 : Row W5 b3 40 [.int .i64 x, .int .i64 y] := by
      have h : W5.heap[b3]? = some (.cells D 40 (0, 0)) := by rw [← hW5]; exact setRow_heap _ _ _ _ _ _ r4
      rw [← HD.out] at h
      exact h
    have c0 : W5.cell? ⟨b3, 0, none⟩ = some (.int .i64 x) := r5.cell 0
    have c1 : W5.cell? ⟨b3, 1, none⟩ = some (.int .i64 y) := r5.cell 1
    have K5 := Lib.hid (K2.out.trans (k3.trans k5))
    have HA5 := Lib.hid (HAWA.out W5 (k3.trans k5))
    have R4 := Lib.hid r4
    clear r4 k4 k5 r5 k3 HPE HAWA
    by_cases hy : 0 < y
    all_goals
      first
      | (have hyd : decide (y > 0) = true := decide_eq_true hy
         have hye : decide (0 < (x, y).2) = true := decide_eq_true hy
         rw [hye] at HA5
         clear hy hye)
      | (have hyd : decide (y > 0) = false := decide_eq_false hy
         have hye : decide (0 < (x, y).2) = false := decide_eq_false hy
         rw [hye] at HA5
         clear hy hye)
      go_wp2_with (first
        | (refine wpList_store_row (by rfl) 40 _ _ (by rfl) b3 D (by rfl) (by rfl) 40 Z R4.out SD.out SZD.out OD.out ?_; rw [hW5])
        | fail)
      refine HA5.out.mono ?_
      rintro e w6 ⟨rfl, k6⟩
      have K6 := Lib.hid (K5.out.trans k6)
      clear k6
      go_wp2
      go_ret
      exact ⟨rfl, K6.out⟩
  | false =>
    have hse : Sc.setE s0 k (x, y) = 1 := by unfold Sc.setE; rw [if_neg (by rw [hq]; decide)]
    have hst : Sc.set s0 k (x, y) = s0 := by unfold Sc.set; rw [if_neg (by rw [hq]; decide)]
    have hge : Sc.get s0 k = (0, 0) := by rw [← HS0.out]; exact new_get _ _ _ _
    rw [hq] at hfd
    have hno := of_decide_eq_false hfd.symm
    rw [hhd, hst, hge, HZ.out] at hpe
    rw [hse]
    have hcs : (k < 0) ∨ (0 ≤ k ∧ 4 ≤ k) ∨ ((0 ≤ k ∧ k < 4) ∧ x < 0) ∨ ((0 ≤ k ∧ k < 4) ∧ 0 ≤ x ∧ (L : Int) ≤ x) ∨ ((0 ≤ k ∧ k < 4) ∧ (0 ≤ x ∧ x < (L : Int)) ∧ y < 0) ∨ ((0 ≤ k ∧ k < 4) ∧ (0 ≤ x ∧ x < (L : Int)) ∧ 0 ≤ y ∧ (H : Int) < y) := by omega
    have HEZ1 := HEZ.out
    clear hfd haw hhd hq hse hst hge t2 k2 hno
    rcases hcs with h | h | h | h | h | h
    · have d1 : decide (k ≥ 0) = false := decide_eq_false (by omega)
      rw [decide_eq_false (show ¬ (0 ≤ k ∧ k < 4) by omega)] at hpe
      have HPE := Lib.hid hpe
      clear hpe h
      go_wp2_with fail
      refine HPE.out.mono ?_
      rintro e w3 ⟨rfl, k3⟩
      obtain ⟨b3, hb3⟩ : ∃ x, w3.heap.size = x := ⟨_, rfl⟩
      obtain ⟨W4, hW4⟩ : ∃ V, w3.alloc (.cells Z 40) = V := ⟨_, rfl⟩
      have r4 : W4.heap[b3]? = some (.cells Z 40 (0, 0)) := by rw [← hW4, ← hb3]; exact heap_alloc_new w3 _
      have k4 : Keeps (fun _ => False) w3 W4 := by rw [← hW4]; exact (Keeps.refl _ _).alloc _
      obtain ⟨W5, hW5⟩ : ∃ V, W4.setRow b3 Z = V := ⟨_, rfl⟩
      have k5 : Keeps (fun _ => False) w3 W5 := k4.trans' (T := fun k => k = b3) (by rw [← hW5]; exact Keeps.setRow _ _) (fun i hi e => by omega)
      have R5 : Hid (W5.heap[b3]? = some (.cells Z 40 (0, 0))) := Lib.hid (by rw [← hW5]; exact setRow_heap _ _ _ _ _ _ r4)
      have K5 := Lib.hid (K2.out.trans (k3.trans k5))
      have R4 := Lib.hid r4
      clear r4 k4 k5 k3 HPE
      go_wp2_with (first
        | (refine wpList_store_row (by rfl) 40 _ _ (by rfl) b3 Z (by rfl) (by rfl) 40 Z R4.out SZ.out rfl OZ.out ?_; rw [hW5])
        | (refine wpList_load_row_w (by rfl) 40 _ (by rfl) b3 (by rfl) 40 Z (0, 0) _ R5.out Try.underlying40 rfl SZ.out ?_)
        | (refine wpList_made_w (by rfl) 40 [] (by rfl) [] (by rfl) (.agg Z) HBN.out ?_)
        | (refine wpList_eq_agg_w (by rfl) .eql 40 40 _ _ (by rfl) Z Z (by rfl) (by rfl) (by kernel_rfl) (.bool true) (HEZ.out _) ?_))
      go_ret
      exact ⟨rfl, K5.out⟩
    · have d1 : decide (k ≥ 0) = true := decide_eq_true (by omega)
      have d2 : decide (k < 4) = false := decide_eq_false (by omega)
      rw [decide_eq_false (show ¬ (0 ≤ k ∧ k < 4) by omega)] at hpe
      have HPE := Lib.hid hpe
      clear hpe h
      go_wp2_with fail
      refine HPE.out.mono ?_
      rintro e w3 ⟨rfl, k3⟩
      obtain ⟨b3, hb3⟩ : ∃ x, w3.heap.size = x := ⟨_, rfl⟩
      obtain ⟨W4, hW4⟩ : ∃ V, w3.alloc (.cells Z 40) = V := ⟨_, rfl⟩
      have r4 : W4.heap[b3]? = some (.cells Z 40 (0, 0)) := by rw [← hW4, ← hb3]; exact heap_alloc_new w3 _
      have k4 : Keeps (fun _ => False) w3 W4 := by rw [← hW4]; exact (Keeps.refl _ _).alloc _
      obtain ⟨W5, hW5⟩ : ∃ V, W4.setRow b3 Z = V := ⟨_, rfl⟩
      have k5 : Keeps (fun _ => False) w3 W5 := k4.trans' (T := fun k => k = b3) (by rw [← hW5]; exact Keeps.setRow _ _) (fun i hi e => by omega)
      have R5 : Hid (W5.heap[b3]? = some (.cells Z 40 (0, 0))) := Lib.hid (by rw [← hW5]; exact setRow_heap _ _ _ _ _ _ r4)
      have K5 := Lib.hid (K2.out.trans (k3.trans k5))
      have R4 := Lib.hid r4
      clear r4 k4 k5 k3 HPE
      go_wp2_with (first
        | (refine wpList_store_row (by rfl) 40 _ _ (by rfl) b3 Z (by rfl) (by rfl) 40 Z R4.out SZ.out rfl OZ.out ?_; rw [hW5])
        | (refine wpList_load_row_w (by rfl) 40 _ (by rfl) b3 (by rfl) 40 Z (0, 0) _ R5.out Try.underlying40 rfl SZ.out ?_)
        | (refine wpList_made_w (by rfl) 40 [] (by rfl) [] (by rfl) (.agg Z) HBN.out ?_)
        | (refine wpList_eq_agg_w (by rfl) .eql 40 40 _ _ (by rfl) Z Z (by rfl) (by rfl) (by kernel_rfl) (.bool true) (HEZ.out _) ?_))
      go_ret
      exact ⟨rfl, K5.out⟩
    · have d1 : decide (k ≥ 0) = true := decide_eq_true (by omega)
      have d2 : decide (k < 4) = true := decide_eq_true (by omega)
      have d3 : decide (x ≥ 0) = false := decide_eq_false (by omega)
      rw [decide_eq_true (show (0 ≤ k ∧ k < 4) by omega)] at hpe
      have HPE := Lib.hid hpe
      clear hpe h
      go_wp2_with fail
      refine HPE.out.mono ?_
      rintro e w3 ⟨rfl, k3⟩
      obtain ⟨b3, hb3⟩ : ∃ x, w3.heap.size = x := ⟨_, rfl⟩
      obtain ⟨W4, hW4⟩ : ∃ V, w3.alloc (.cells Z 40) = V := ⟨_, rfl⟩
      have r4 : W4.heap[b3]? = some (.cells Z 40 (0, 0)) := by rw [← hW4, ← hb3]; exact heap_alloc_new w3 _
      have k4 : Keeps (fun _ => False) w3 W4 := by rw [← hW4]; exact (Keeps.refl _ _).alloc _
      obtain ⟨W5, hW5⟩ : ∃ V, W4.setRow b3 Z = V := ⟨_, rfl⟩
      have k5 : Keeps (fun _ => False) w3 W5 := k4.trans' (T := fun k => k = b3) (by rw [← hW5]; exact Keeps.setRow _ _) (fun i hi e => by omega)
      have R5 : Hid (W5.heap[b3]? = some (.cells Z 40 (0, 0))) := Lib.hid (by rw [← hW5]; exact setRow_heap _ _ _ _ _ _ r4)
      have K5 := Lib.hid (K2.out.trans (k3.trans k5))
      have R4 := Lib.hid r4
      clear r4 k4 k5 k3 HPE
      go_wp2_with (first
        | (refine wpList_store_row (by rfl) 40 _ _ (by rfl) b3 Z (by rfl) (by rfl) 40 Z R4.out SZ.out rfl OZ.out ?_; rw [hW5])
        | (refine wpList_load_row_w (by rfl) 40 _ (by rfl) b3 (by rfl) 40 Z (0, 0) _ R5.out Try.underlying40 rfl SZ.out ?_)
        | (refine wpList_made_w (by rfl) 40 [] (by rfl) [] (by rfl) (.agg Z) HBN.out ?_)
        | (refine wpList_eq_agg_w (by rfl) .eql 40 40 _ _ (by rfl) Z Z (by rfl) (by rfl) (by kernel_rfl) (.bool true) (HEZ.out _) ?_))
      go_ret
      exact ⟨rfl, K5.out⟩
    · have d1 : decide (k ≥ 0) = true := decide_eq_true (by omega)
      have d2 : decide (k < 4) = true := decide_eq_true (by omega)
      have d3 : decide (x ≥ 0) = true := decide_eq_true (by omega)
      have d4 : decide (x < (L : Int)) = false := decide_eq_false (by omega)
      rw [decide_eq_true (show (0 ≤ k ∧ k < 4) by omega)] at hpe
      have HPE := Lib.hid hpe
      clear hpe h
      go_wp2_with fail
      refine HPE.out.mono ?_
      rintro e w3 ⟨rfl, k3⟩
      obtain ⟨b3, hb3⟩ : ∃ x, w3.heap.size = x := ⟨_, rfl⟩
      obtain ⟨W4, hW4⟩ : ∃ V, w3.alloc (.cells Z 40) = V := ⟨_, rfl⟩
      have r4 : W4.heap[b3]? = some (.cells Z 40 (0, 0)) := by rw [← hW4, ← hb3]; exact heap_alloc_new w3 _
      have k4 : Keeps (fun _ => False) w3 W4 := by rw [← hW4]; exact (Keeps.refl _ _).alloc _
      obtain ⟨W5, hW5⟩ : ∃ V, W4.setRow b3 Z = V := ⟨_, rfl⟩
      have k5 : Keeps (fun _ => False) w3 W5 := k4.trans' (T := fun k => k = b3) (by rw [← hW5]; exact Keeps.setRow _ _) (fun i hi e => by omega)
      have R5 : Hid (W5.heap[b3]? = some (.cells Z 40 (0, 0))) := Lib.hid (by rw [← hW5]; exact setRow_heap _ _ _ _ _ _ r4)
      have K5 := Lib.hid (K2.out.trans (k3.trans k5))
      have R4 := Lib.hid r4
      clear r4 k4 k5 k3 HPE
      go_wp2_with (first
        | (refine wpList_store_row (by rfl) 40 _ _ (by rfl) b3 Z (by rfl) (by rfl) 40 Z R4.out SZ.out rfl OZ.out ?_; rw [hW5])
        | (refine wpList_load_row_w (by rfl) 40 _ (by rfl) b3 (by rfl) 40 Z (0, 0) _ R5.out Try.underlying40 rfl SZ.out ?_)
        | (refine wpList_made_w (by rfl) 40 [] (by rfl) [] (by rfl) (.agg Z) HBN.out ?_)
        | (refine wpList_eq_agg_w (by rfl) .eql 40 40 _ _ (by rfl) Z Z (by rfl) (by rfl) (by kernel_rfl) (.bool true) (HEZ.out _) ?_))
      go_ret
      exact ⟨rfl, K5.out⟩
    · have d1 : decide (k ≥ 0) = true := decide_eq_true (by omega)
      have d2 : decide (k < 4) = true := decide_eq_true (by omega)
      have d3 : decide (x ≥ 0) = true := decide_eq_true (by omega)
      have d4 : decide (x < (L : Int)) = true := decide_eq_true (by omega)
      have d5 : decide (y ≥ 0) = false := decide_eq_false (by omega)
      rw [decide_eq_true (show (0 ≤ k ∧ k < 4) by omega)] at hpe
      have HPE := Lib.hid hpe
      clear hpe h
      go_wp2_with fail
      refine HPE.out.mono ?_
      rintro e w3 ⟨rfl, k3⟩
      obtain ⟨b3, hb3⟩ : ∃ x, w3.heap.size = x := ⟨_, rfl⟩
      obtain ⟨W4, hW4⟩ : ∃ V, w3.alloc (.cells Z 40) = V := ⟨_, rfl⟩
      have r4 : W4.heap[b3]? = some (.cells Z 40 (0, 0)) := by rw [← hW4, ← hb3]; exact heap_alloc_new w3 _
      have k4 : Keeps (fun _ => False) w3 W4 := by rw [← hW4]; exact (Keeps.refl _ _).alloc _
      obtain ⟨W5, hW5⟩ : ∃ V, W4.setRow b3 Z = V := ⟨_, rfl⟩
      have k5 : Keeps (fun _ => False) w3 W5 := k4.trans' (T := fun k => k = b3) (by rw [← hW5]; exact Keeps.setRow _ _) (fun i hi e => by omega)
      have R5 : Hid (W5.heap[b3]? = some (.cells Z 40 (0, 0))) := Lib.hid (by rw [← hW5]; exact setRow_heap _ _ _ _ _ _ r4)
      have K5 := Lib.hid (K2.out.trans (k3.trans k5))
      have R4 := Lib.hid r4
      clear r4 k4 k5 k3 HPE
      go_wp2_with (first
        | (refine wpList_store_row (by rfl) 40 _ _ (by rfl) b3 Z (by rfl) (by rfl) 40 Z R4.out SZ.out rfl OZ.out ?_; rw [hW5])
        | (refine wpList_load_row_w (by rfl) 40 _ (by rfl) b3 (by rfl) 40 Z (0, 0) _ R5.out Try.underlying40 rfl SZ.out ?_)
        | (refine wpList_made_w (by rfl) 40 [] (by rfl) [] (by rfl) (.agg Z) HBN.out ?_)
        | (refine wpList_eq_agg_w (by rfl) .eql 40 40 _ _ (by rfl) Z Z (by rfl) (by rfl) (by kernel_rfl) (.bool true) (HEZ.out _) ?_))
      go_ret
      exact ⟨rfl, K5.out⟩
    · have d1 : decide (k ≥ 0) = true := decide_eq_true (by omega)
      have d2 : decide (k < 4) = true := decide_eq_true (by omega)
      have d3 : decide (x ≥ 0) = true := decide_eq_true (by omega)
      have d4 : decide (x < (L : Int)) = true := decide_eq_true (by omega)
      have d5 : decide (y ≥ 0) = true := decide_eq_true (by omega)
      have d6 : decide (y ≤ (H : Int)) = false := decide_eq_false (by omega)
      rw [decide_eq_true (show (0 ≤ k ∧ k < 4) by omega)] at hpe
      have HPE := Lib.hid hpe
      clear hpe h
      go_wp2_with fail
      refine HPE.out.mono ?_
      rintro e w3 ⟨rfl, k3⟩
      obtain ⟨b3, hb3⟩ : ∃ x, w3.heap.size = x := ⟨_, rfl⟩
      obtain ⟨W4, hW4⟩ : ∃ V, w3.alloc (.cells Z 40) = V := ⟨_, rfl⟩
      have r4 : W4.heap[b3]? = some (.cells Z 40 (0, 0)) := by rw [← hW4, ← hb3]; exact heap_alloc_new w3 _
      have k4 : Keeps (fun _ => False) w3 W4 := by rw [← hW4]; exact (Keeps.refl _ _).alloc _
      obtain ⟨W5, hW5⟩ : ∃ V, W4.setRow b3 Z = V := ⟨_, rfl⟩
      have k5 : Keeps (fun _ => False) w3 W5 := k4.trans' (T := fun k => k = b3) (by rw [← hW5]; exact Keeps.setRow _ _) (fun i hi e => by omega)
      have R5 : Hid (W5.heap[b3]? = some (.cells Z 40 (0, 0))) := Lib.hid (by rw [← hW5]; exact setRow_heap _ _ _ _ _ _ r4)
      have K5 := Lib.hid (K2.out.trans (k3.trans k5))
      have R4 := Lib.hid r4
      clear r4 k4 k5 k3 HPE
      go_wp2_with (first
        | (refine wpList_store_row (by rfl) 40 _ _ (by rfl) b3 Z (by rfl) (by rfl) 40 Z R4.out SZ.out rfl OZ.out ?_; rw [hW5])
        | (refine wpList_load_row_w (by rfl) 40 _ (by rfl) b3 (by rfl) 40 Z (0, 0) _ R5.out Try.underlying40 rfl SZ.out ?_)
        | (refine wpList_made_w (by rfl) 40 [] (by rfl) [] (by rfl) (.agg Z) HBN.out ?_)
        | (refine wpList_eq_agg_w (by rfl) .eql 40 40 _ _ (by rfl) Z Z (by rfl) (by rfl) (by kernel_rfl) (.bool true) (HEZ.out _) ?_))
      go_ret
      exact ⟨rfl, K5.out⟩
theorem sets_walk (l h x y k : Int) (W : World) (hl : (Lit.int .u8 l).wf = true) (hh : (Lit.int .u8 h).wf = true) (hx : (Lit.int .i64 x).wf = true) (hy : (Lit.int .i64 y).wf = true) (hk : (Lit.int .i64 k).wf = true) :
    Calls Try.prog 6 #[.int .u8 l, .int .u8 h, .int .i64 x, .int .i64 y, .int .i64 k] W fun e W' => e = .returned (.bool true) ∧ Below W.heap.size W W' := by
  have h1 : 0 ≤ l ∧ l ≤ 255 := bounds_u8 hl
  have h2 : 0 ≤ h ∧ h ≤ 255 := bounds_u8 hh
  obtain ⟨l, rfl⟩ := Int.eq_ofNat_of_zero_le h1.1
  obtain ⟨h, rfl⟩ := Int.eq_ofNat_of_zero_le h2.1
  exact (sets_go l h x y k W (by omega) (by omega)).mono (fun e w' h => ⟨h.1, h.2.below (Nat.le_refl _) (fun _ _ => id)⟩)
end Go.Proofs.Ytdihkbkcefjeoaa
