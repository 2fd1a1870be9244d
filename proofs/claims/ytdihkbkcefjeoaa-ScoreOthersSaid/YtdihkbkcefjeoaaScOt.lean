/-
  ScoreOthers' walk.
-/
import Derived.Test.YtdihkbkcefjeoaaScW
import Derived.Test.YtdihkbkcefjeoaaRowU
import Derived.Test.YtdihkbkcefjeoaaEq
import Derived.Laws.BitsAllLaws
namespace Go.Proofs.Ytdihkbkcefjeoaa
open Go.RowKit Go.BigFrame
set_option linter.unusedVariables false
set_option linter.unusedSimpArgs false

theorem and_seven (o : Nat) (h : o ≤ 255) : ∃ m : Nat, m < 8 ∧ bits .and .u8 (o : Int) 7 = (m : Int) := by
  refine ⟨o &&& 7, ?_, u8_and_nat o 7 (by omega) (by omega)⟩
  exact Nat.lt_of_le_of_lt Nat.and_le_right (by decide)
theorem eq_peer_same (V : World) : (binOp .eql 40 (.agg (pc (3, 0))) (.agg (pc (3, 0)))).run Try.prog V = .ok (.bool true) V := by kernel_rfl
namespace Sc
theorem blame_length (s : Tb) (k n : Int) : (blame s k n).ps.length = s.ps.length := by
  unfold blame put
  split
  · split <;> simp
  · rfl
theorem blame_other (s : Tb) (k j n : Int) (h : j ≠ k) : get (blame s k n) j = get s j := by
  have hl := blame_length s k n
  unfold get
  rw [hl]
  split
  · rename_i hj
    unfold blame put
    split
    · rename_i hm
      obtain ⟨⟨h0, _⟩, _⟩ := of_decide_eq_true hm
      have hne : k.toNat ≠ j.toNat := fun e => h (by omega)
      split
      · show (s.ps.set k.toNat _).getD j.toNat (0, 0) = _
        rw [List.getD_eq_getElem?_getD, List.getElem?_set_ne hne, ← List.getD_eq_getElem?_getD]
      · show (s.ps.set k.toNat _).getD j.toNat (0, 0) = _
        rw [List.getD_eq_getElem?_getD, List.getElem?_set_ne hne, ← List.getD_eq_getElem?_getD]
    · rfl
  · rfl
theorem blame_out (s : Tb) (k n : Int) (h : ¬ (0 ≤ k ∧ k < (s.ps.length : Int))) : blame s k n = s := by
  unfold blame
  rw [if_neg]
  intro hm
  exact h (of_decide_eq_true hm).1
end Sc
/-- The table in the midst of the law: who is looked at stays. -/
structure OtI (s s1 : Sc.Tb) (k : Nat) (peer : Int) : Prop where
  len : s.ps.length = 8
  lim : s.limit = 10
  same : Sc.get s (k : Int) = (3, 0)
  out : ¬ (0 ≤ peer ∧ peer < 8) → s = s1
theorem OtI.step {s s1 : Sc.Tb} {k : Nat} {peer : Int} (h : OtI s s1 k peer) (n : Int) (hne : peer ≠ (k : Int)) : OtI (Sc.blame s peer n) s1 k peer :=
  ⟨(Sc.blame_length s peer n).trans h.len, by unfold Sc.blame Sc.put; split <;> first | (split <;> exact h.lim) | exact h.lim, (Sc.blame_other s peer (k : Int) n (Ne.symm hne)).trans h.same, fun ho => by rw [Sc.blame_out s peer n (by rw [h.len]; exact ho)]; exact h.out ho⟩
set_option maxRecDepth 100000 in
set_option maxHeartbeats 4000000 in
theorem others_skip (peer : Int) (A : Option Addr) (len c : Nat) (o : Int) (W : World) (h : 40 < len) :
    Calls Try.prog 5 #[.int .i64 peer, .slice A len c, .int .u8 o] W fun e w' => e = .returned (.bool true) ∧ Keeps (fun _ => False) W w' := by
  have HAW := Lib.hid (awake13_any W)
  have h40 : (40 : Int) < (len : Int) := by omega
  go_enter Try.func5, Try.ntmps5
  go_wp2_with fail
  refine HAW.out.mono ?_
  rintro e w0 ⟨rfl, k0⟩
  have K0 := Lib.hid k0
  clear k0
  go_wp2
  go_ret
  exact ⟨rfl, K0.out⟩
set_option maxRecDepth 100000 in
set_option maxHeartbeats 4000000 in
theorem others_go (peer : Int) (A : Option Addr) (len c : Nat) (zs : List Int) (o : Nat) (W : World) (ho : o ≤ 255) (hl : len ≤ 40) (hzl : zs.length = len) (hsr : Src W A (zs.map (Value.int .i64))) (hwf : ∀ z ∈ zs, (Lit.int .i64 z).wf = true) :
    Calls Try.prog 5 #[.int .i64 peer, .slice A len c, .int .u8 (o : Int)] W fun e w' => e = .returned (.bool true) ∧ Keeps (fun _ => False) W w' := by
  obtain ⟨k, hk8, hkb⟩ := and_seven o ho
  obtain ⟨Z, hZ⟩ : ∃ Z, pc (0, 0) = Z := ⟨_, rfl⟩
  have hz : ∀ V : World, (zeroValue 40).run Try.prog V = .ok (.agg Z) V := fun V => by rw [← hZ]; exact zero_peer V
  obtain ⟨D, hD⟩ : ∃ D, pc (3, 0) = D := ⟨_, rfl⟩
  have HED : Hid (∀ V : World, (binOp .eql 40 (.agg D) (.agg D)).run Try.prog V = .ok (.bool true) V) := Lib.hid (fun V => by rw [← hD]; exact eq_peer_same V)
  have SD : Hid ((Try.prog.info? 40).map (·.size) = some D.size) := Lib.hid (by rw [← hD]; exact size_Peer)
  have SZD : Hid (Z.size = D.size) := Lib.hid (by rw [← hD, ← hZ]; rfl)
  have OD : Hid (D.all (·.oneCell') = true) := Lib.hid (by rw [← hD]; exact pc_one _)
  have HD := Lib.hid hD
  have HAW := Lib.hid (awake13_any W)
  have hkk : (k : Int) < 8 := by omega
  have h40 : ¬ (40 : Int) < (len : Int) := by omega
  have HSR := Lib.hid hsr
  have HWF := Lib.hid (And.intro hzl (And.intro hwf (And.intro hl hk8)))
  clear hZ hD ho hsr hwf hzl
  go_enter Try.func5, Try.ntmps5
  go_wp2_with fail
  refine HAW.out.mono ?_
  rintro e w0 ⟨rfl, k0⟩
  have hn := new_any 8 10 4 w0 (by omega) (by omega) (by omega)
  rw [show ((8 : Nat) : Int) = 8 from rfl] at hn
  have HN := Lib.hid hn
  have K0 := Lib.hid k0
  clear hn k0 HAW
  go_wp2_with fail
  refine HN.out.mono ?_
  rintro e w1 ⟨g, b, rfl, hg, hb, t1, k1⟩
  obtain ⟨s0, hs0⟩ : ∃ s, Sc.new 8 10 4 = s := ⟨_, rfl⟩
  rw [hs0] at t1
  have hbl := blame_tab w1 g b s0 (k : Int) 3 t1 (by decide)
  have hge0 : Sc.get s0 (k : Int) = (0, 0) := by
    rw [← hs0]
    unfold Sc.get Sc.new
    split
    · rw [List.getD_eq_getElem?_getD, List.getElem?_replicate]
      split <;> rfl
    · rfl
  have hl8 : s0.ps.length = 8 := by rw [← hs0]; rfl
  have hli : s0.limit = 10 := by rw [← hs0]; rfl
  have hmay : Sc.may s0 (k : Int) 3 = true := decide_eq_true ⟨by rw [hl8]; omega, by rw [hge0]; decide, by decide⟩
  have hhit : Sc.hit s0 (k : Int) 3 = false := by unfold Sc.hit; rw [hmay, hge0, hli]; decide
  have hbe : Sc.blame s0 (k : Int) 3 = Sc.put s0 (k : Int) (3, 0) := by
    unfold Sc.blame
    rw [if_pos hmay, hge0, hli, if_neg (by decide)]
    rfl
  obtain ⟨s1, hs1⟩ : ∃ s, Sc.blame s0 (k : Int) 3 = s := ⟨_, rfl⟩
  rw [hs1] at hbl hbe
  rw [hhit] at hbl
  have hI : OtI s1 s1 k peer := by
    rw [hbe]
    refine ⟨by show (s0.ps.set _ _).length = 8; rw [List.length_set]; exact hl8, hli, ?_, fun _ => rfl⟩
    refine Sc.get_nat ?_
    show (s0.ps.set (Int.toNat (k : Int)) (3, 0))[k]? = some (3, 0)
    rw [Int.toNat_natCast, List.getElem?_set_self (by omega)]
  have hop : (Sc.opens s1.ps s1.ps.length).length = 8 := by
    rw [hI.len]
    unfold Sc.opens
    rw [List.filter_eq_self.2, List.length_range]
    intro j hj
    rw [List.mem_range] at hj
    rw [decide_eq_true_eq, hbe]
    show ((s0.ps.set (Int.toNat (k : Int)) (3, 0)).getD j (0, 0)).2 ≤ 0
    rw [List.getD_eq_getElem?_getD, List.getElem?_set, ← hs0]
    show ((if (k : Int).toNat = j then if (k : Int).toNat < (List.replicate 8 ((0 : Int), (0 : Int))).length then some ((3 : Int), (0 : Int)) else none else (List.replicate 8 ((0 : Int), (0 : Int)))[j]?).getD (0, 0)).2 ≤ 0
    split
    · split <;> exact Int.le_refl 0
    · rw [List.getElem?_replicate]
      split <;> exact Int.le_refl 0
  have HBL := Lib.hid hbl
  have HI := Lib.hid hI
  have HOP := Lib.hid hop
  have HGB : Hid (W.heap.size ≤ g ∧ W.heap.size ≤ b) := Lib.hid (by have := K0.out.size; omega)
  have K1 := Lib.hid (K0.out.trans k1)
  clear hbl hI hop hge0 hl8 hli hmay hhit hbe hs1 hs0 t1 k1 hg hb HN
  go_wp2_with fail
  refine HBL.out.mono ?_
  rintro e w2 ⟨rfl, t2, k2⟩
  have K2 : Hid (Keeps (fun _ => False) W w2) := Lib.hid (K1.out.trans' k2 (fun i hi e => by have := HGB.out; omega))
  have hpe := peer_any w2 g b s1 (k : Int) t2
  rw [HI.out.same, show Sc.has s1 (k : Int) = true from decide_eq_true (by rw [HI.out.len]; omega), HD.out] at hpe
  have HPE := Lib.hid hpe
  have T2 := Lib.hid t2
  clear hpe t2 k2 HBL
  go_wp2_with fail
  refine HPE.out.mono ?_
  rintro e w3 ⟨rfl, k3⟩
  obtain ⟨b3, hb3⟩ : ∃ x, w3.heap.size = x := ⟨_, rfl⟩
  obtain ⟨W4, hW4⟩ : ∃ V, w3.alloc (.cells Z 40) = V := ⟨_, rfl⟩
  have r4 : W4.heap[b3]? = some (.cells Z 40 (0, 0)) := by rw [← hW4, ← hb3]; exact heap_alloc_new w3 _
  have k4 : Keeps (fun _ => False) w3 W4 := by rw [← hW4]; exact (Keeps.refl _ _).alloc _
  obtain ⟨w5, hW5⟩ : ∃ V, W4.setRow b3 D = V := ⟨_, rfl⟩
  have k5 : Keeps (fun _ => False) w3 w5 := k4.trans' (T := fun k => k = b3) (by rw [← hW5]; exact Keeps.setRow _ _) (fun i hi e => by omega)
  have r5 : w5.heap[b3]? = some (.cells D 40 (0, 0)) := by rw [← hW5]; exact setRow_heap _ _ _ _ _ _ r4
  have K5 := Lib.hid (K2.out.trans (k3.trans k5))
  have T5 := Lib.hid (T2.out.later (k3.trans k5))
  have HB3 : Hid (b3 ≠ b) := Lib.hid (fun e => T5.out.map.apart r5 e.symm)
  have R4 := Lib.hid r4
  have R5 := Lib.hid r5
  clear r4 k4 k5 r5 k3 HPE T2
  go_wp2_with (first
    | (refine wpList_store_row (by rfl) 40 _ _ (by rfl) b3 D (by rfl) (by rfl) 40 Z R4.out SD.out SZD.out OD.out ?_; rw [hW5])
    | fail)
  go_loopw [13] (fun iv wr => ∃ (i : Nat) (s : Sc.Tb), i ≤ len ∧ iv = .int .i64 (i : Int) ∧ Hid (TabAt wr g b s) ∧ Hid (OtI s s1 k peer) ∧ Hid (Keeps (fun j => j = b) w5 wr)) (fun iv _ => len - (intOf iv).toNat)
  case atStart => exact ⟨0, s1, by omega, rfl, T5, HI, Lib.hid (Keeps.refl _ _)⟩
  case round =>
    obtain ⟨i, s, hi, rfl, T, I, K⟩ := hrel
    by_cases hlt : i < len
    · have hii : (i : Int) < (len : Int) := by omega
      have h64 : i ≤ 40 := by omega
      by_cases hpk : peer = (k : Int)
      · have hpd : (peer != (k : Int)) = false := by simp [hpk]
        clear hpk
        go_wp2
        go_roundw
        case rel => exact ⟨i + 1, s, by omega, by go_num, T, I, K⟩
        case measure => simp [intOf]; omega
      · have hpd : (peer != (k : Int)) = true := by simpa using hpk
        obtain ⟨x, hx⟩ : ∃ x, zs[i]? = some x := ⟨_, List.getElem?_eq_getElem (by have := HWF.out.1; omega)⟩
        obtain ⟨ad, rfl, hc⟩ := (HSR.out.keeps (K5.out.trans' K.out (fun j hj e => by have := HGB.out; omega)) (fun _ _ _ => id)) i (.int .i64 x) (by rw [List.getElem?_map, hx]; rfl)
        have bx := bounds_i64 (HWF.out.2.1 x (List.mem_of_getElem? hx))
        have h1 := blame_tab wr g b s peer x T.out bx.2
        have H1 := Lib.hid h1
        have I2 := Lib.hid (I.out.step x hpk)
        clear h1 bx hpk hx
        go_wp2_with fail
        refine H1.out.mono ?_
        rintro e w6 ⟨rfl, t6, k6⟩
        have T6 := Lib.hid t6
        have K6 := Lib.hid (K.out.trans k6)
        clear t6 k6 H1
        go_wp2
        go_roundw
        case rel => exact ⟨i + 1, _, by omega, by go_num, T6, I2, K6⟩
        case measure => simp [intOf]; omega
    · obtain rfl : i = len := by omega
      have hpe := peer_any wr g b s (k : Int) T.out
      rw [I.out.same, show Sc.has s (k : Int) = true from decide_eq_true (by rw [I.out.len]; omega), HD.out] at hpe
      have HPE := Lib.hid hpe
      have RR := Lib.hid ((K.out.block b3 (Array.getElem?_eq_some_iff.1 R5.out).1 HB3.out).trans R5.out)
      have KR : Hid (Keeps (fun _ => False) W wr) := Lib.hid (K5.out.trans' K.out (fun j hj e => by have := HGB.out; omega))
      clear hpe
      go_wp2_with fail
      refine HPE.out.mono ?_
      rintro e w6 ⟨rfl, k6⟩
      obtain ⟨b7, hb7⟩ : ∃ x, w6.heap.size = x := ⟨_, rfl⟩
      obtain ⟨W7, hW7⟩ : ∃ V, w6.alloc (.cells Z 40) = V := ⟨_, rfl⟩
      have r7 : W7.heap[b7]? = some (.cells Z 40 (0, 0)) := by rw [← hW7, ← hb7]; exact heap_alloc_new w6 _
      have k7 : Keeps (fun _ => False) w6 W7 := by rw [← hW7]; exact (Keeps.refl _ _).alloc _
      obtain ⟨w8, hW8⟩ : ∃ V, W7.setRow b7 D = V := ⟨_, rfl⟩
      have k8 : Keeps (fun _ => False) w6 w8 := k7.trans' (T := fun k => k = b7) (by rw [← hW8]; exact Keeps.setRow _ _) (fun i hi e => by omega)
      have r8 : w8.heap[b7]? = some (.cells D 40 (0, 0)) := by rw [← hW8]; exact setRow_heap _ _ _ _ _ _ r7
      have K8 := Lib.hid (KR.out.trans (k6.trans k8))
      have RR8 := Lib.hid (((k6.trans k8).block b3 (Array.getElem?_eq_some_iff.1 RR.out).1 id).trans RR.out)
      have hrw : Row w8 b7 40 [.int .i64 3, .int .i64 0] := by
        have h := r8
        rw [← HD.out] at h
        exact h
      have c0 : w8.cell? ⟨b7, 0, none⟩ = some (.int .i64 3) := hrw.cell 0
      have hopn := open_tab w8 g b s (T.out.later (k6.trans k8))
      have R7 := Lib.hid r7
      have R8 := Lib.hid r8
      have HOPN := Lib.hid hopn
      clear r7 k7 k8 r8 k6 HPE hrw hopn
      by_cases hp0 : 0 ≤ peer
      · have d1 : decide (peer ≥ 0) = true := decide_eq_true hp0
        by_cases hp8 : peer < 8
        · have d2 : decide (peer < 8) = true := decide_eq_true hp8
          clear hp0 hp8
          go_wp2_with (first
            | (refine wpList_store_row (by rfl) 40 _ _ (by rfl) b7 D (by rfl) (by rfl) 40 Z R7.out SD.out SZD.out OD.out ?_; rw [hW8])
            | (refine wpList_load_row_w (by rfl) 40 _ (by rfl) b7 (by rfl) 40 D (0, 0) _ R8.out Try.underlying40 rfl SD.out ?_)
            | (refine wpList_load_row_w (by rfl) 40 _ (by rfl) b3 (by rfl) 40 D (0, 0) _ RR8.out Try.underlying40 rfl SD.out ?_)
            | (refine wpList_eq_agg_w (by rfl) .eql 40 40 _ _ (by rfl) D D (by rfl) (by rfl) (by kernel_rfl) (.bool true) (HED.out _) ?_))
          go_ret
          exact ⟨rfl, K8.out⟩
        · have d2 : decide (peer < 8) = false := decide_eq_false hp8
          have hss := I.out.out (fun h => hp8 h.2)
          rw [hss, HOP.out] at HOPN
          clear hp0 hp8 hss
          go_wp2_with (first
            | (refine wpList_store_row (by rfl) 40 _ _ (by rfl) b7 D (by rfl) (by rfl) 40 Z R7.out SD.out SZD.out OD.out ?_; rw [hW8])
            | (refine wpList_load_row_w (by rfl) 40 _ (by rfl) b7 (by rfl) 40 D (0, 0) _ R8.out Try.underlying40 rfl SD.out ?_)
            | (refine wpList_load_row_w (by rfl) 40 _ (by rfl) b3 (by rfl) 40 D (0, 0) _ RR8.out Try.underlying40 rfl SD.out ?_)
            | (refine wpList_eq_agg_w (by rfl) .eql 40 40 _ _ (by rfl) D D (by rfl) (by rfl) (by kernel_rfl) (.bool true) (HED.out _) ?_)
            | fail)
          refine HOPN.out.mono ?_
          rintro e w9 ⟨A9, m9, c9, rfl, rfl, _, k9⟩
          have K9 := Lib.hid (K8.out.trans k9)
          clear k9
          go_wp2
          go_ret
          exact ⟨rfl, K9.out⟩
      · have d1 : decide (peer ≥ 0) = false := decide_eq_false hp0
        have hss := I.out.out (fun h => hp0 h.1)
        rw [hss, HOP.out] at HOPN
        clear hp0 hss
        go_wp2_with (first
          | (refine wpList_store_row (by rfl) 40 _ _ (by rfl) b7 D (by rfl) (by rfl) 40 Z R7.out SD.out SZD.out OD.out ?_; rw [hW8])
          | (refine wpList_load_row_w (by rfl) 40 _ (by rfl) b7 (by rfl) 40 D (0, 0) _ R8.out Try.underlying40 rfl SD.out ?_)
          | (refine wpList_load_row_w (by rfl) 40 _ (by rfl) b3 (by rfl) 40 D (0, 0) _ RR8.out Try.underlying40 rfl SD.out ?_)
          | (refine wpList_eq_agg_w (by rfl) .eql 40 40 _ _ (by rfl) D D (by rfl) (by rfl) (by kernel_rfl) (.bool true) (HED.out _) ?_)
          | fail)
        refine HOPN.out.mono ?_
        rintro e w9 ⟨A9, m9, c9, rfl, rfl, _, k9⟩
        have K9 := Lib.hid (K8.out.trans k9)
        clear k9
        go_wp2
        go_ret
        exact ⟨rfl, K9.out⟩
theorem others_walk (peer : Int) (A : Option Addr) (len c : Nat) (zs : List Int) (o : Int) (W : World) (hp : (Lit.int .i64 peer).wf = true) (hA : IsRowU .i64 W A len c zs) (ho : (Lit.int .u8 o).wf = true) :
    Calls Try.prog 5 #[.int .i64 peer, .slice A len c, .int .u8 o] W fun e W' => e = .returned (.bool true) ∧ Below W.heap.size W W' := by
  have h1 := bounds_u8 ho
  obtain ⟨ls, hl, hs, hw, _⟩ := hA.ints
  obtain ⟨o, rfl⟩ := Int.eq_ofNat_of_zero_le h1.1
  by_cases h : len ≤ 40
  · exact (others_go peer A len c ls o W (by omega) h hl hs hw).mono (fun e w' h => ⟨h.1, h.2.below (Nat.le_refl _) (fun _ _ => id)⟩)
  · exact (others_skip peer A len c o W (by omega)).mono (fun e w' h => ⟨h.1, h.2.below (Nat.le_refl _) (fun _ _ => id)⟩)
end Go.Proofs.Ytdihkbkcefjeoaa
