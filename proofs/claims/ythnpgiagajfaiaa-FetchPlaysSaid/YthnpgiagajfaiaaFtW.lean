/-
  The document's own table of what is asked for, by value: Tick.
-/
import Derived.Test.YthnpgiagajfaiaaFtV
import Derived.Test.YthnpgiagajfaiaaDiRa
namespace Go.Proofs.Ythnpgiagajfaiaa
open Go.RowKit Go.BigFrame
set_option linter.unusedVariables false
set_option linter.unusedSimpArgs false

namespace Ft
theorem tk1_on {base most budget : Nat} {t : Tk} {q : Q} (h : 0 < q.left - 1) : tk1 base most budget t q = { t with l := t.l ++ [{ q with left := q.left - 1 }] } := by
  unfold tk1 say; rw [if_pos h]
theorem tk1_gone {base most budget : Nat} {t : Tk} {q : Q} (h : ¬ 0 < q.left - 1) (h2 : q.tries = budget) : tk1 base most budget t q = { t with lost := t.lost ++ [{ q with left := q.left - 1 }] } := by
  unfold tk1 say; rw [if_neg h, if_pos h2]
theorem tk1_told {base most budget : Nat} {t : Tk} {q : Q} (h : ¬ 0 < q.left - 1) (h2 : ¬ q.tries = budget) : tk1 base most budget t q = { t with l := t.l ++ [⟨q.key, q.tries + 1, (wait base most q.tries : Int) + ((Di.bel t.s base).2 : Int)⟩], s := (Di.bel t.s base).1, asks := t.asks ++ [⟨q.key, q.tries + 1, (wait base most q.tries : Int) + ((Di.bel t.s base).2 : Int)⟩] } := by
  unfold tk1 say; rw [if_neg h, if_neg h2]
theorem tick_take {base most budget : Nat} {s : BitVec 64} {l : List Q} {i : Nat} {q : Q} (h : l[i]? = some q) : tick base most budget s (l.take (i + 1)) = tk1 base most budget (tick base most budget s (l.take i)) q := by
  obtain ⟨h1, h2⟩ := List.getElem?_eq_some_iff.1 h
  rw [List.take_succ_eq_append_getElem h1, h2, tick_snoc]
theorem pow_le_20 {t : Nat} (h : t ≤ 20) : 2 ^ t ≤ 1048576 := Nat.le_trans (Nat.pow_le_pow_right (by omega) h) (by decide)
end Ft
set_option maxRecDepth 100000 in
set_option maxHeartbeats 4000000 in
theorem rtick_any (base most budget : Nat) (A : Option Addr) (n c B0 : Nat) (l : List Ft.Q) (s : BitVec 64) (w : World) (hf : ∀ q ∈ l, Ft.Q.Fine q) (ho : w.ownsRow B0 71 68 (.slice A n c) n (qfl l)) (hn : n ≤ 1000) (hpar : 1 ≤ base ∧ base ≤ 100 ∧ most ≤ 1000 ∧ budget ≤ 20) :
    Calls Try.prog 17 #[.agg (tcs base most budget (.slice A n c)), .int .u64 (di s)] w fun e w' => ∃ (A1 : Option Addr) (c1 : Nat) (A2 : Option Addr) (c2 : Nat) (A3 : Option Addr) (c3 : Nat),
      e = .returned (.tuple #[.agg (tcs base most budget (.slice A1 (Ft.tick base most budget s l).l.length c1)), .int .u64 (di (Ft.tick base most budget s l).s), .slice A2 (Ft.tick base most budget s l).asks.length c2, .slice A3 (Ft.tick base most budget s l).lost.length c3]) ∧ Keeps (fun _ => False) w w' ∧
      R3 w' w.heap.size (.slice A1 (Ft.tick base most budget s l).l.length c1) (.slice A2 (Ft.tick base most budget s l).asks.length c2) (.slice A3 (Ft.tick base most budget s l).lost.length c3) (Ft.tick base most budget s l).l (Ft.tick base most budget s l).asks (Ft.tick base most budget s l).lost := by
  have hok : ∀ q ∈ l, Ft.Q.Ok q := fun q hq => (hf q hq).1
  obtain ⟨Z, hZ⟩ : ∃ Z, tcs 0 0 0 (.slice none 0 0) = Z := ⟨_, rfl⟩
  have hz : ∀ V : World, (zeroValue 31).run Try.prog V = .ok (.agg Z) V := fun V => by rw [← hZ]; exact zero_T V
  have SZ : Hid ((Try.prog.info? 31).map (·.size) = some Z.size) := Lib.hid (by rw [← hZ]; exact size_T)
  obtain ⟨T, hT⟩ : ∃ T, tcs base most budget (.slice A n c) = T := ⟨_, rfl⟩
  rw [hT]
  obtain ⟨b1, hb1⟩ : ∃ x, w.heap.size = x := ⟨_, rfl⟩
  obtain ⟨W1, hW1⟩ : ∃ V, w.alloc (.cells T 31) = V := ⟨_, rfl⟩
  obtain ⟨b4, hb4⟩ : ∃ x, W1.heap.size = x := ⟨_, rfl⟩
  obtain ⟨W7, hW4⟩ : ∃ V, W1.alloc (.cells Z 31) = V := ⟨_, rfl⟩
  have k1 : Keeps (fun _ => False) w W1 := by rw [← hW1]; exact (Keeps.refl _ _).alloc _
  have k4 : Keeps (fun _ => False) W1 W7 := by rw [← hW4]; exact (Keeps.refl _ _).alloc _
  have r1 : Row W7 b1 31 [.int .i64 (base : Int), .int .i64 (most : Int), .int .i64 (budget : Int), .slice A n c] := Row.keeps (w := W1) (by rw [← hW1, ← hb1, ← hT]; exact heap_alloc_new w _) k4 id
  have r4 : W7.heap[b4]? = some (.cells Z 31 (0, 0)) := by rw [← hW4, ← hb4]; exact heap_alloc_new W1 _
  have k04 := k1.trans k4
  have HBO : Hid (w.heap.size = b1 ∧ b1 < b4 ∧ W7.heap.size = b4 + 1 ∧ b4 < W7.heap.size) := Lib.hid (by
    have e1 : W1.heap.size = w.heap.size + 1 := by rw [← hW1]; simp
    have e4 : W7.heap.size = W1.heap.size + 1 := by rw [← hW4]; simp
    omega)
  have HR1 := Lib.hid r1
  have HR4 := Lib.hid r4
  have HO := Lib.hid (k04.owns ho (fun _ _ => id))
  have K4 := Lib.hid k04
  have K47 : Hid (Keeps (fun _ => False) W7 W7) := Lib.hid (Keeps.refl _ _)
  have HLL : Hid (l.length = n) := Lib.hid (by have h := ho.1; rw [qfl_length l hok] at h; omega)
  have HF := Lib.hid hf
  have HOK := Lib.hid hok
  obtain ⟨ih, zh, hih, hzh, hsh, hbh, hzsh⟩ := info_Q_in
  have HII := Lib.hid (And.intro hih (And.intro hzh (And.intro hsh (And.intro hbh hzsh))))
  have hzq0 := fun V => zero_Qa V
  have hzl : (qcs ⟨((0, List.replicate 32 0), (0, List.replicate 32 0)), 0, 0⟩).toArray.size = 68 := by rw [List.size_toArray]; rfl
  obtain ⟨ZQ, hZQ⟩ : ∃ Z, (qcs ⟨((0, List.replicate 32 0), (0, List.replicate 32 0)), 0, 0⟩).toArray = Z := ⟨_, rfl⟩
  rw [hZQ] at hzl
  have hzq : ∀ V : World, (zeroValue 71).run Try.prog V = .ok (.agg ZQ) V := fun V => by rw [← hZQ]; exact hzq0 V
  have HZL := Lib.hid hzl
  clear hT r1 r4 k1 k4 k04 ho hok hf hZ hih hzh hsh hbh hzsh hzq0 hzl hZQ
  go_enter Try.func17, Try.ntmps17
  go_wp2_with fail
  obtain ⟨B, hB⟩ : ∃ B, W7.heap.size = B := ⟨_, rfl⟩
  have HBE := Lib.hid (show W7.heap.size = B ∧ b4 < B ∧ b1 < b4 ∧ w.heap.size = b1 by have := HBO.out; omega)
  have hb1B : b1 < B := by have := HBE.out; omega
  have P0 : Hid (R3 W7 B (.slice none 0 0) (.slice none 0 0) (.slice none 0 0) [] [] []) := Lib.hid ⟨World.ownsRow_nil _ _ _ _, World.ownsRow_nil _ _ _ _, World.ownsRow_nil _ _ _ _, (fun b e => by cases e), (fun b e => by cases e), (fun b e => by cases e), by have := HBE.out; omega⟩
  clear hB
  go_loopw [1, 8, 9, 10, 11, 12, 13, 14, 15, 16] (fun sv lv av ov iv _ _ _ _ _ wr => ∃ (i : Nat) (x : Ft.Tk) (A1 : Option Addr) (c1 : Nat) (A2 : Option Addr) (c2 : Nat) (A3 : Option Addr) (c3 : Nat), i ≤ n ∧ sv = .int .u64 (di x.s) ∧ lv = .slice A1 x.l.length c1 ∧ av = .slice A2 x.asks.length c2 ∧ ov = .slice A3 x.lost.length c3 ∧ iv = .int .i64 (i : Int) ∧ Hid (Ft.tick base most budget s (l.take i) = x) ∧ Hid (x.l.length ≤ i ∧ x.asks.length ≤ i ∧ x.lost.length ≤ i) ∧ Hid (R3 wr B (.slice A1 x.l.length c1) (.slice A2 x.asks.length c2) (.slice A3 x.lost.length c3) x.l x.asks x.lost) ∧ Hid (Keeps (fun j => B ≤ j) W7 wr)) (fun _ _ _ _ iv _ _ _ _ _ _ => n - (intOf iv).toNat)
  case atStart => exact ⟨0, ⟨[], s, [], []⟩, none, 0, none, 0, none, 0, by omega, rfl, rfl, rfl, rfl, rfl, Lib.hid rfl, Lib.hid ⟨Nat.le_refl _, Nat.le_refl _, Nat.le_refl _⟩, P0, Lib.hid (Keeps.refl _ _)⟩
  case round =>
    obtain ⟨i, x, A1, c1, A2, c2, A3, c3, hi, rfl, rfl, rfl, rfl, rfl, HP, HM, HR3, HKB⟩ := hrel
    have r1w := Row.keeps HR1.out HKB.out (by omega)
    have hl0 : wr.cell? ⟨b1, 3, none⟩ = some (.slice A n c) := r1w.cell 3
    have HR1W := Lib.hid r1w
    have hbl : ∀ b, b < W7.heap.size → ¬ B ≤ b := fun b hb => by have := HBE.out; omega
    have HOW := Lib.hid (HKB.out.owns HO.out (fun b hb e => by
      obtain ⟨_, hg, _⟩ := own_block HO.out b hb
      exact hbl b (Array.getElem?_eq_some_iff.1 hg).1 e))
    clear r1w hbl
    by_cases hlt : i < n
    · have hii : (i : Int) < (n : Int) := by omega
      obtain ⟨g, rfl⟩ := own_some18 (g := 0) HOW.out (by omega)
      obtain ⟨a, ha⟩ : ∃ a, l[i]? = some a := ⟨_, List.getElem?_eq_getElem (by have := HLL.out; omega)⟩
      have hfa := HF.out a (List.mem_of_getElem? ha)
      obtain ⟨haok, ht20, hl0a, hl1a⟩ := hfa
      have hal := own_q HOW.out HOK.out ha
      have hala : (qcs a).length = 68 := qcs_length haok
      -- the box of the one, its cells
      obtain ⟨b12, hb12⟩ : ∃ x, wr.heap.size = x := ⟨_, rfl⟩
      obtain ⟨Y1, hY1⟩ : ∃ V, wr.alloc (.cells ZQ 71) = V := ⟨_, rfl⟩
      have ky1 : Keeps (fun _ => False) wr Y1 := by rw [← hY1]; exact (Keeps.refl _ _).alloc _
      have ry1 : Y1.heap[b12]? = some (.cells ZQ 71 (0, 0)) := by rw [← hY1, ← hb12]; exact heap_alloc_new wr _
      obtain ⟨Y2, hY2⟩ : ∃ V, Y1.setRow b12 (qcs a).toArray = V := ⟨_, rfl⟩
      have ry2 : Row Y2 b12 71 (qcs a) := by rw [← hY2]; exact setRow_heap _ _ _ _ _ _ ry1
      obtain ⟨Y3, hY3⟩ : ∃ V, Y2.setCell ⟨b12, 67, none⟩ (.int .i64 (a.left - 1)) = V := ⟨_, rfl⟩
      have ry3 : Row Y3 b12 71 (qcs { a with left := a.left - 1 }) := by rw [← hY3, ← qcs_left a haok]; exact ry2.set 67 _
      have ky12 : Keeps (fun j => j = b12) Y1 Y2 := by rw [← hY2]; exact Keeps.setRow b12 _
      have ky23 : Keeps (fun j => j = b12) Y2 Y3 := by rw [← hY3]; exact (Keeps.refl (fun j => j = b12) Y2).setCell (p := ⟨b12, 67, none⟩) (fun _ => rfl) _
      have ky3 : Keeps (fun j => j = b12) wr Y3 := ((ky1.mono (fun _ _ h => h.elim)).trans ky12).trans ky23
      have c67 : Y2.cell? ⟨b12, 67, none⟩ = some (.int .i64 a.left) := (range_q haok (range_row ry2)).2.2.2
      have f67 : Y2.frozen? ⟨b12, 67, none⟩ = false := ry2.frozen 67
      have d67 : Y3.cell? ⟨b12, 67, none⟩ = some (.int .i64 (a.left - 1)) := (range_q (q := { a with left := a.left - 1 }) haok (range_row ry3)).2.2.2
      have d66 : Y3.cell? ⟨b12, 66, none⟩ = some (.int .i64 (a.tries : Int)) := (range_q (q := { a with left := a.left - 1 }) haok (range_row ry3)).2.2.1
      have hw3 := ky3.size
      have r13 := Row.keeps HR1W.out ky3 (by have := HBE.out; have := HR3.out.below; omega)
      have e2 : Y3.cell? ⟨b1, 2, none⟩ = some (.int .i64 (budget : Int)) := r13.cell 2
      have e0 : Y3.cell? ⟨b1, 0, none⟩ = some (.int .i64 (base : Int)) := r13.cell 0
      have e1 : Y3.cell? ⟨b1, 1, none⟩ = some (.int .i64 (most : Int)) := r13.cell 1
      have hr3 : R3 Y3 B (.slice A1 x.l.length c1) (.slice A2 x.asks.length c2) (.slice A3 x.lost.length c3) x.l x.asks x.lost := HR3.out.keeps ky3 (fun b e => by subst e; exact HR3.out.ne (by omega))
      have hkb : Keeps (fun j => B ≤ j) W7 Y3 := HKB.out.trans (ky3.mono (fun j hj e => by have := HR3.out.below; omega))
      have SAL : Hid ((Try.prog.info? 71).map (·.size) = some (qcs a).length) := Lib.hid (by rw [hala]; exact info_Q)
      have SAA : Hid ((Try.prog.info? 71).map (·.size) = some (qcs a).toArray.size) := Lib.hid (by rw [List.size_toArray, hala]; exact info_Q)
      have SZA : Hid (ZQ.size = (qcs a).toArray.size) := Lib.hid (by rw [HZL.out, List.size_toArray, hala])
      have OAA : Hid ((qcs a).toArray.all (·.oneCell') = true) := Lib.hid (by rw [Array.all_eq_true_iff_forall_mem]; intro v hv; exact qcs_one a v (by simpa using hv))
      obtain ⟨AL, hAL⟩ : ∃ L, qcs a = L := ⟨_, rfl⟩
      rw [hAL] at hal hY2 SAL SAA SZA OAA
      have HAL8 := Lib.hid hal
      have RY1 := Lib.hid ry1
      have HR := Lib.hid hr3
      have HKB3 := Lib.hid hkb
      have R13 := Lib.hid r13
      have HQ1 := Lib.hid ry3
      have HB12 := Lib.hid (show B ≤ b12 ∧ b12 < Y3.heap.size by have := HR3.out.below; have := ry3.lt; omega)
      have HNE12 := Lib.hid (HR3.out.ne (b := b12) (by omega))
      have HTK : Hid (Ft.tick base most budget s (l.take (i + 1)) = Ft.tk1 base most budget x a) := Lib.hid (by rw [Ft.tick_take ha, HP.out])
      have hml : x.l.length ≤ 1000 := by have := HM.out; omega
      have hma : x.asks.length ≤ 1000 := by have := HM.out; omega
      have hmo : x.lost.length ≤ 1000 := by have := HM.out; omega
      have HAK := Lib.hid haok
      clear ha hal hala ry1 ry2 ry3 ky1 ky3 ky12 ky23 r13 hr3 hkb hAL hw3
      by_cases hpos : 0 < a.left - 1
      · obtain ⟨q, hq⟩ : ∃ q : Ft.Q, q = { a with left := a.left - 1 } := ⟨_, rfl⟩
        have hqok : Ft.Q.Ok q := by rw [hq]; exact HAK.out
        have HTK2 : Hid (Ft.tick base most budget s (l.take (i + 1)) = ⟨x.l ++ [q], x.s, x.asks, x.lost⟩) := Lib.hid (by rw [HTK.out, Ft.tk1_on hpos, hq])
        have RX0 : Y3.heap[b12]? = some (.cells (qcs q).toArray 71 (0, 0)) := by rw [hq]; exact HQ1.out
        have hbq := fun V => build_Q1 q hqok V
        have hql : (qcs q).length = 68 := qcs_length hqok
        have hq1 := qcs_one q
        have SQX : Hid ((Try.prog.info? 71).map (·.size) = some (qcs q).toArray.size) := Lib.hid (by rw [List.size_toArray, hql]; exact info_Q)
        obtain ⟨QX, hQX⟩ : ∃ L, qcs q = L := ⟨_, rfl⟩
        rw [hQX] at hbq hql hq1 SQX RX0
        have HQB := Lib.hid (And.intro (And.intro hbq hq1) hql)
        have RX := Lib.hid RX0
        have HQX := Lib.hid hQX
        clear hbq hql hq1 hQX
        have hd : decide (0 < a.left - 1) = true := decide_eq_true hpos
        clear hq hqok RX0
        go_wp2_with (first
          | (refine wpList_load_mid_w17 (by rfl) 71 (.tmp 27) (by rfl) g (i * 68) (by rfl) AL _ HAL8.out Try.underlying71 rfl SAL.out ?_)
          | (refine wpList_store_row (by rfl) 71 _ _ (by rfl) b12 AL.toArray (by rfl) (by rfl) 71 ZQ RY1.out SAA.out SZA.out OAA.out ?_; rw [hY2])
          | (refine wpList_load_row (by rfl) 71 _ (by rfl) b12 (by rfl) 71 QX.toArray (0, 0) _ RX.out Try.underlying71 rfl SQX.out ?_)
          | (refine wpList_build1_18 (by rfl) 29 1 0 _ (by rfl) (.agg QX.toArray) _ (by rfl) (HQB.out.1.1 Y3) ?_)
          | (refine wpList_append_own_at _ (by rfl) _ _ 29 (by rfl) B 71 ih zh 68 96 Try.underlying29 HII.out.1 HII.out.2.1 HII.out.2.2.1 HII.out.2.2.2.1 HII.out.2.2.2.2 (by decide) (.slice A1 x.l.length c1) (x.l.length) (qfl (x.l)) (by rfl) (((Keeps.refl (fun _ => False) Y3).alloc _).owns HR.out.rl (fun _ _ => id)) ⟨Y3.heap.size, 0, none⟩ 1 1 QX (by rfl) (by have := HQB.out.2; omega) (World.news_of_block (heap_alloc_new Y3 _)) HQB.out.1.2 (by unfold maxLen; omega) (by omega) (by have := HR.out.below; simp; omega) ?_; intro v1 V1 ho1 hg1 _ hob1; have hp1 := HR.out.push ((Keeps.refl (fun _ => False) Y3).alloc _) (q := q) (by rw [HQX.out]; exact ho1) hg1 hob1; obtain ⟨A5, c5, rfl⟩ := own_slice ho1; have HP1 := Lib.hid hp1; clear hp1; clear ho1 hg1 hob1)
          | fail)
        go_roundw
        case rel => exact ⟨i + 1, ⟨x.l ++ [q], x.s, x.asks, x.lost⟩, A5, c5, A2, c2, A3, c3, by omega, rfl, by rw [List.length_append]; rfl, rfl, rfl, by go_num, HTK2, Lib.hid ⟨by rw [List.length_append]; have := HM.out; simp; omega, Nat.le_succ_of_le HM.out.2.1, Nat.le_succ_of_le HM.out.2.2⟩, Lib.hid (by have h := HP1.out.1; rw [List.length_append]; exact h), Lib.hid (HKB3.out.trans (HP1.out.2.mono (fun j hj e => by obtain ⟨_, _, h⟩ := own_block HR.out.rl j e; exact h)))⟩
        case measure => simp [intOf]; omega
      · have hd : decide (0 < a.left - 1) = false := decide_eq_false hpos
        by_cases hbud : a.tries = budget
        · obtain ⟨q, hq⟩ : ∃ q : Ft.Q, q = { a with left := a.left - 1 } := ⟨_, rfl⟩
          have hqok : Ft.Q.Ok q := by rw [hq]; exact HAK.out
          have HTK2 : Hid (Ft.tick base most budget s (l.take (i + 1)) = ⟨x.l, x.s, x.asks, x.lost ++ [q]⟩) := Lib.hid (by rw [HTK.out, Ft.tk1_gone hpos hbud, hq])
          have RX0 : Y3.heap[b12]? = some (.cells (qcs q).toArray 71 (0, 0)) := by rw [hq]; exact HQ1.out
          have hbq := fun V => build_Q1 q hqok V
          have hql : (qcs q).length = 68 := qcs_length hqok
          have hq1 := qcs_one q
          have SQX : Hid ((Try.prog.info? 71).map (·.size) = some (qcs q).toArray.size) := Lib.hid (by rw [List.size_toArray, hql]; exact info_Q)
          obtain ⟨QX, hQX⟩ : ∃ L, qcs q = L := ⟨_, rfl⟩
          rw [hQX] at hbq hql hq1 SQX RX0
          have HQB := Lib.hid (And.intro (And.intro hbq hq1) hql)
          have RX := Lib.hid RX0
          have HQX := Lib.hid hQX
          clear hbq hql hq1 hQX
          have hbe : ((a.tries : Int) == (budget : Int)) = true := by rw [hbud]; simp
          clear hq hqok RX0
          go_wp2_with (first
            | (refine wpList_load_mid_w17 (by rfl) 71 (.tmp 27) (by rfl) g (i * 68) (by rfl) AL _ HAL8.out Try.underlying71 rfl SAL.out ?_)
            | (refine wpList_store_row (by rfl) 71 _ _ (by rfl) b12 AL.toArray (by rfl) (by rfl) 71 ZQ RY1.out SAA.out SZA.out OAA.out ?_; rw [hY2])
            | (refine wpList_load_row (by rfl) 71 _ (by rfl) b12 (by rfl) 71 QX.toArray (0, 0) _ RX.out Try.underlying71 rfl SQX.out ?_)
            | (refine wpList_build1_18 (by rfl) 29 1 0 _ (by rfl) (.agg QX.toArray) _ (by rfl) (HQB.out.1.1 Y3) ?_)
            | (refine wpList_append_own_at _ (by rfl) _ _ 29 (by rfl) B 71 ih zh 68 96 Try.underlying29 HII.out.1 HII.out.2.1 HII.out.2.2.1 HII.out.2.2.2.1 HII.out.2.2.2.2 (by decide) (.slice A3 x.lost.length c3) (x.lost.length) (qfl (x.lost)) (by rfl) (((Keeps.refl (fun _ => False) Y3).alloc _).owns HR.out.ro (fun _ _ => id)) ⟨Y3.heap.size, 0, none⟩ 1 1 QX (by rfl) (by have := HQB.out.2; omega) (World.news_of_block (heap_alloc_new Y3 _)) HQB.out.1.2 (by unfold maxLen; omega) (by omega) (by have := HR.out.below; simp; omega) ?_; intro v1 V1 ho1 hg1 _ hob1; have hp1 := HR.out.swapO.push ((Keeps.refl (fun _ => False) Y3).alloc _) (q := q) (by rw [HQX.out]; exact ho1) hg1 hob1; obtain ⟨A5, c5, rfl⟩ := own_slice ho1; have HP1 := Lib.hid hp1; clear hp1; clear ho1 hg1 hob1)
            | fail)
          go_roundw
          case rel => exact ⟨i + 1, ⟨x.l, x.s, x.asks, x.lost ++ [q]⟩, A1, c1, A2, c2, A5, c5, by omega, rfl, rfl, rfl, by rw [List.length_append]; rfl, by go_num, HTK2, Lib.hid ⟨Nat.le_succ_of_le HM.out.1, Nat.le_succ_of_le HM.out.2.1, by rw [List.length_append]; have := HM.out; simp; omega⟩, Lib.hid (by have h := HP1.out.1.swapO; rw [List.length_append]; exact h), Lib.hid (HKB3.out.trans (HP1.out.2.mono (fun j hj e => by obtain ⟨_, _, h⟩ := own_block HR.out.ro j e; exact h)))⟩
          case measure => simp [intOf]; omega
        · have hbe : ((a.tries : Int) == (budget : Int)) = false := by simp; omega
          go_wp2_with (first
            | (refine wpList_load_mid_w17 (by rfl) 71 (.tmp 27) (by rfl) g (i * 68) (by rfl) AL _ HAL8.out Try.underlying71 rfl SAL.out ?_)
            | (refine wpList_store_row (by rfl) 71 _ _ (by rfl) b12 AL.toArray (by rfl) (by rfl) 71 ZQ RY1.out SAA.out SZA.out OAA.out ?_; rw [hY2])
            | fail)
          go_loopw [13, 14] (fun wv kv wr2 => ∃ k v : Nat, k ≤ a.tries ∧ wv = .int .i64 (v : Int) ∧ kv = .int .i64 (k : Int) ∧ Hid (v = base * 2 ^ k) ∧ wr2 = Y3) (fun _ kv _ => a.tries - (intOf kv).toNat)
          case atStart => exact ⟨0, base, by omega, rfl, rfl, Lib.hid (by simp), rfl⟩
          case round =>
            obtain ⟨k, v, hk, rfl, rfl, HV, hw⟩ := hrel
            obtain rfl : Y3 = wr := hw.symm
            have hv : v ≤ 104857600 := by
              rw [HV.out]
              exact Nat.le_trans (Nat.mul_le_mul hpar.2.1 (Ft.pow_le_20 (show k ≤ 20 by omega))) (by decide)
            by_cases hkt : k < a.tries
            · have hki : (k : Int) < (a.tries : Int) := by omega
              go_wp2
              go_roundw
              case rel => exact ⟨k + 1, v * 2, by omega, by go_num, by go_num, Lib.hid (by rw [HV.out, Nat.pow_succ, Nat.mul_assoc]), trivial⟩
              case measure => simp [intOf]; omega
            · obtain rfl : k = a.tries := by omega
              by_cases hmv : most < v
              · have hdm : decide (most < v) = true := decide_eq_true hmv
                have hwt : most = Ft.wait base most a.tries := by unfold Ft.wait; rw [← HV.out]; omega
                have hbel := rbelow_any x.s (base : Int) Y3 (by simp [Lit.wf, IntKind.min, IntKind.max, IntKind.signed, IntKind.bits]; omega)
                have hpl : ((Di.bel x.s (base : Int)).2 : Int) < (base : Int) := Di.bel_lt x.s (base : Int) (by omega)
                have htold := Ft.tk1_told (base := base) (most := most) (budget := budget) (t := x) (q := a) (by omega) hbud
                rw [← hwt] at htold
                obtain ⟨s2, hs2⟩ : ∃ s2, (Di.bel x.s (base : Int)).1 = s2 := ⟨_, rfl⟩
                obtain ⟨p, hp⟩ : ∃ p, (Di.bel x.s (base : Int)).2 = p := ⟨_, rfl⟩
                rw [hs2, hp] at hbel htold
                rw [hp] at hpl
                obtain ⟨q, hq⟩ : ∃ q : Ft.Q, q = ⟨a.key, a.tries + 1, (most : Int) + (p : Int)⟩ := ⟨_, rfl⟩
                rw [← hq] at htold
                have hqok : Ft.Q.Ok q := by rw [hq]; exact HAK.out
                have HTK2 : Hid (Ft.tick base most budget s (l.take (i + 1)) = ⟨x.l ++ [q], s2, x.asks ++ [q], x.lost⟩) := Lib.hid (HTK.out.trans htold)
                have HBEL := Lib.hid hbel
                clear hbel htold hs2 hp hwt
                go_wp2_with fail
                refine HBEL.out.mono ?_
                rintro e Z1 ⟨rfl, kz⟩
                have rz := Row.keeps HQ1.out kz id
                obtain ⟨Z2, hZ2⟩ : ∃ V, Z1.setCell ⟨b12, 66, none⟩ (.int .i64 ((a.tries : Int) + 1)) = V := ⟨_, rfl⟩
                have rz2 : Row Z2 b12 71 (qcs ⟨a.key, a.tries + 1, a.left - 1⟩) := by
                  have h := rz.set 66 (.int .i64 ((a.tries : Int) + 1))
                  rw [hZ2] at h
                  rw [← qcs_tries ⟨a.key, a.tries, a.left - 1⟩ HAK.out (a.tries + 1)]
                  exact h
                obtain ⟨Z3, hZ3⟩ : ∃ V, Z2.setCell ⟨b12, 67, none⟩ (.int .i64 ((most : Int) + (p : Int))) = V := ⟨_, rfl⟩
                have RX0 : Z3.heap[b12]? = some (.cells (qcs q).toArray 71 (0, 0)) := by
                  have h := rz2.set 67 (.int .i64 ((most : Int) + (p : Int)))
                  rw [hZ3] at h
                  rw [hq, ← qcs_left ⟨a.key, a.tries + 1, a.left - 1⟩ HAK.out]
                  exact h
                have z66 : Z1.cell? ⟨b12, 66, none⟩ = some (.int .i64 (a.tries : Int)) := (range_q (q := { a with left := a.left - 1 }) HAK.out (range_row rz)).2.2.1
                have zf66 : Z1.frozen? ⟨b12, 66, none⟩ = false := rz.frozen 66
                have z67 : Z2.cell? ⟨b12, 67, none⟩ = some (.int .i64 (a.left - 1)) := (range_q (q := ⟨a.key, a.tries + 1, a.left - 1⟩) HAK.out (range_row rz2)).2.2.2
                have zf67 : Z2.frozen? ⟨b12, 67, none⟩ = false := rz2.frozen 67
                have kz12 : Keeps (fun j => j = b12) Z1 Z2 := by rw [← hZ2]; exact (Keeps.refl (fun j => j = b12) Z1).setCell (p := ⟨b12, 66, none⟩) (fun _ => rfl) _
                have kz23 : Keeps (fun j => j = b12) Z2 Z3 := by rw [← hZ3]; exact (Keeps.refl (fun j => j = b12) Z2).setCell (p := ⟨b12, 67, none⟩) (fun _ => rfl) _
                have kz3 : Keeps (fun j => j = b12) Y3 Z3 := ((kz.mono (fun _ _ h => h.elim)).trans kz12).trans kz23
                have hne12 := HNE12.out
                have HRZ := Lib.hid (HR.out.keeps kz3 (fun b e => by subst e; exact hne12))
                have HKZ := Lib.hid (HKB3.out.trans (kz3.mono (fun j hj e => by have := HB12.out; omega)))
                clear rz rz2 kz kz12 kz23 kz3
                have hbq := fun V => build_Q1 q hqok V
                have hql : (qcs q).length = 68 := qcs_length hqok
                have hq1 := qcs_one q
                have SQX : Hid ((Try.prog.info? 71).map (·.size) = some (qcs q).toArray.size) := Lib.hid (by rw [List.size_toArray, hql]; exact info_Q)
                obtain ⟨QX, hQX⟩ : ∃ L, qcs q = L := ⟨_, rfl⟩
                rw [hQX] at hbq hql hq1 SQX RX0
                have HQB := Lib.hid (And.intro (And.intro hbq hq1) hql)
                have RX := Lib.hid RX0
                have HQX := Lib.hid hQX
                clear hbq hql hq1 hQX
                have h12l : (12 : Nat) = 12 := rfl
                clear hq hqok RX0
                go_wp2_with (first
                  | (refine wpList_load_row (by rfl) 71 _ (by rfl) b12 (by rfl) 71 QX.toArray (0, 0) _ RX.out Try.underlying71 rfl SQX.out ?_)
                  | (refine wpList_build1_18 (by rfl) 29 1 0 _ (by rfl) (.agg QX.toArray) _ (by rfl) (HQB.out.1.1 Z3) ?_)
                  | (refine wpList_append_own_at _ (by rfl) _ _ 29 (by rfl) B 71 ih zh 68 96 Try.underlying29 HII.out.1 HII.out.2.1 HII.out.2.2.1 HII.out.2.2.2.1 HII.out.2.2.2.2 (by decide) (.slice A1 x.l.length c1) (x.l.length) (qfl (x.l)) (by rfl) (((Keeps.refl (fun _ => False) Z3).alloc _).owns HRZ.out.rl (fun _ _ => id)) ⟨Z3.heap.size, 0, none⟩ 1 1 QX (by rfl) (by have := HQB.out.2; omega) (World.news_of_block (heap_alloc_new Z3 _)) HQB.out.1.2 (by unfold maxLen; omega) (by omega) (by have := HRZ.out.below; simp; omega) ?_; intro v1 V1 ho1 hg1 _ hob1; have hp1 := HRZ.out.push ((Keeps.refl (fun _ => False) Z3).alloc _) (q := q) (by rw [HQX.out]; exact ho1) hg1 hob1; obtain ⟨A5, c5, rfl⟩ := own_slice ho1; have HP1 := Lib.hid hp1; have RX1 := Lib.hid ((hp1.2.block b12 (Array.getElem?_eq_some_iff.1 RX.out).1 HNE12.out.1).trans RX.out); clear hp1; clear ho1 hg1 hob1)
                  | (refine wpList_load_row (by rfl) 71 _ (by rfl) b12 (by rfl) 71 QX.toArray (0, 0) _ RX1.out Try.underlying71 rfl SQX.out ?_)
                  | (refine wpList_build1_18 (by rfl) 29 1 0 _ (by rfl) (.agg QX.toArray) _ (by rfl) (HQB.out.1.1 V1) ?_)
                  | (refine wpList_append_own_at _ (by rfl) _ _ 29 (by rfl) B 71 ih zh 68 96 Try.underlying29 HII.out.1 HII.out.2.1 HII.out.2.2.1 HII.out.2.2.2.1 HII.out.2.2.2.2 (by decide) (.slice A2 x.asks.length c2) (x.asks.length) (qfl (x.asks)) (by rfl) (((Keeps.refl (fun _ => False) V1).alloc _).owns HP1.out.1.ra (fun _ _ => id)) ⟨V1.heap.size, 0, none⟩ 1 1 QX (by rfl) (by have := HQB.out.2; omega) (World.news_of_block (heap_alloc_new V1 _)) HQB.out.1.2 (by unfold maxLen; omega) (by omega) (by have := HP1.out.1.below; simp; omega) ?_; intro v2 V2 ho2 hg2 _ hob2; have hp2 := HP1.out.1.swapA.push ((Keeps.refl (fun _ => False) V1).alloc _) (q := q) (by rw [HQX.out]; exact ho2) hg2 hob2; obtain ⟨A6, c6, rfl⟩ := own_slice ho2; have HP2 := Lib.hid hp2; clear hp2; clear ho2 hg2 hob2)
                  | fail)
                go_roundw
                case rel => exact ⟨i + 1, ⟨x.l ++ [q], s2, x.asks ++ [q], x.lost⟩, A5, c5, A6, c6, A3, c3, by omega, rfl, by rw [List.length_append]; rfl, by rw [List.length_append]; rfl, rfl, by go_num, HTK2, Lib.hid ⟨by rw [List.length_append]; have := HM.out; simp; omega, by rw [List.length_append]; have := HM.out; simp; omega, Nat.le_succ_of_le HM.out.2.2⟩, Lib.hid (by have h := HP2.out.1.swapA; rw [List.length_append, List.length_append]; exact h), Lib.hid ((HKZ.out.trans (HP1.out.2.mono (fun j hj e => by obtain ⟨_, _, h⟩ := own_block HRZ.out.rl j e; exact h))).trans (HP2.out.2.mono (fun j hj e => by obtain ⟨_, _, h⟩ := own_block HP1.out.1.ra j e; exact h)))⟩
                case measure => simp [intOf]; omega
              · have hdm : decide (most < v) = false := decide_eq_false hmv
                have hwt : v = Ft.wait base most a.tries := by unfold Ft.wait; rw [← HV.out]; omega
                have hv1000 : v ≤ 1000 := by omega
                have hbel := rbelow_any x.s (base : Int) Y3 (by simp [Lit.wf, IntKind.min, IntKind.max, IntKind.signed, IntKind.bits]; omega)
                have hpl : ((Di.bel x.s (base : Int)).2 : Int) < (base : Int) := Di.bel_lt x.s (base : Int) (by omega)
                have htold := Ft.tk1_told (base := base) (most := most) (budget := budget) (t := x) (q := a) (by omega) hbud
                rw [← hwt] at htold
                obtain ⟨s2, hs2⟩ : ∃ s2, (Di.bel x.s (base : Int)).1 = s2 := ⟨_, rfl⟩
                obtain ⟨p, hp⟩ : ∃ p, (Di.bel x.s (base : Int)).2 = p := ⟨_, rfl⟩
                rw [hs2, hp] at hbel htold
                rw [hp] at hpl
                obtain ⟨q, hq⟩ : ∃ q : Ft.Q, q = ⟨a.key, a.tries + 1, (v : Int) + (p : Int)⟩ := ⟨_, rfl⟩
                rw [← hq] at htold
                have hqok : Ft.Q.Ok q := by rw [hq]; exact HAK.out
                have HTK2 : Hid (Ft.tick base most budget s (l.take (i + 1)) = ⟨x.l ++ [q], s2, x.asks ++ [q], x.lost⟩) := Lib.hid (HTK.out.trans htold)
                have HBEL := Lib.hid hbel
                clear hbel htold hs2 hp hwt
                go_wp2_with fail
                refine HBEL.out.mono ?_
                rintro e Z1 ⟨rfl, kz⟩
                have rz := Row.keeps HQ1.out kz id
                obtain ⟨Z2, hZ2⟩ : ∃ V, Z1.setCell ⟨b12, 66, none⟩ (.int .i64 ((a.tries : Int) + 1)) = V := ⟨_, rfl⟩
                have rz2 : Row Z2 b12 71 (qcs ⟨a.key, a.tries + 1, a.left - 1⟩) := by
                  have h := rz.set 66 (.int .i64 ((a.tries : Int) + 1))
                  rw [hZ2] at h
                  rw [← qcs_tries ⟨a.key, a.tries, a.left - 1⟩ HAK.out (a.tries + 1)]
                  exact h
                obtain ⟨Z3, hZ3⟩ : ∃ V, Z2.setCell ⟨b12, 67, none⟩ (.int .i64 ((v : Int) + (p : Int))) = V := ⟨_, rfl⟩
                have RX0 : Z3.heap[b12]? = some (.cells (qcs q).toArray 71 (0, 0)) := by
                  have h := rz2.set 67 (.int .i64 ((v : Int) + (p : Int)))
                  rw [hZ3] at h
                  rw [hq, ← qcs_left ⟨a.key, a.tries + 1, a.left - 1⟩ HAK.out]
                  exact h
                have z66 : Z1.cell? ⟨b12, 66, none⟩ = some (.int .i64 (a.tries : Int)) := (range_q (q := { a with left := a.left - 1 }) HAK.out (range_row rz)).2.2.1
                have zf66 : Z1.frozen? ⟨b12, 66, none⟩ = false := rz.frozen 66
                have z67 : Z2.cell? ⟨b12, 67, none⟩ = some (.int .i64 (a.left - 1)) := (range_q (q := ⟨a.key, a.tries + 1, a.left - 1⟩) HAK.out (range_row rz2)).2.2.2
                have zf67 : Z2.frozen? ⟨b12, 67, none⟩ = false := rz2.frozen 67
                have kz12 : Keeps (fun j => j = b12) Z1 Z2 := by rw [← hZ2]; exact (Keeps.refl (fun j => j = b12) Z1).setCell (p := ⟨b12, 66, none⟩) (fun _ => rfl) _
                have kz23 : Keeps (fun j => j = b12) Z2 Z3 := by rw [← hZ3]; exact (Keeps.refl (fun j => j = b12) Z2).setCell (p := ⟨b12, 67, none⟩) (fun _ => rfl) _
                have kz3 : Keeps (fun j => j = b12) Y3 Z3 := ((kz.mono (fun _ _ h => h.elim)).trans kz12).trans kz23
                have hne12 := HNE12.out
                have HRZ := Lib.hid (HR.out.keeps kz3 (fun b e => by subst e; exact hne12))
                have HKZ := Lib.hid (HKB3.out.trans (kz3.mono (fun j hj e => by have := HB12.out; omega)))
                clear rz rz2 kz kz12 kz23 kz3
                have hbq := fun V => build_Q1 q hqok V
                have hql : (qcs q).length = 68 := qcs_length hqok
                have hq1 := qcs_one q
                have SQX : Hid ((Try.prog.info? 71).map (·.size) = some (qcs q).toArray.size) := Lib.hid (by rw [List.size_toArray, hql]; exact info_Q)
                obtain ⟨QX, hQX⟩ : ∃ L, qcs q = L := ⟨_, rfl⟩
                rw [hQX] at hbq hql hq1 SQX RX0
                have HQB := Lib.hid (And.intro (And.intro hbq hq1) hql)
                have RX := Lib.hid RX0
                have HQX := Lib.hid hQX
                clear hbq hql hq1 hQX
                have h12l : (12 : Nat) = 12 := rfl
                clear hq hqok RX0
                go_wp2_with (first
                  | (refine wpList_load_row (by rfl) 71 _ (by rfl) b12 (by rfl) 71 QX.toArray (0, 0) _ RX.out Try.underlying71 rfl SQX.out ?_)
                  | (refine wpList_build1_18 (by rfl) 29 1 0 _ (by rfl) (.agg QX.toArray) _ (by rfl) (HQB.out.1.1 Z3) ?_)
                  | (refine wpList_append_own_at _ (by rfl) _ _ 29 (by rfl) B 71 ih zh 68 96 Try.underlying29 HII.out.1 HII.out.2.1 HII.out.2.2.1 HII.out.2.2.2.1 HII.out.2.2.2.2 (by decide) (.slice A1 x.l.length c1) (x.l.length) (qfl (x.l)) (by rfl) (((Keeps.refl (fun _ => False) Z3).alloc _).owns HRZ.out.rl (fun _ _ => id)) ⟨Z3.heap.size, 0, none⟩ 1 1 QX (by rfl) (by have := HQB.out.2; omega) (World.news_of_block (heap_alloc_new Z3 _)) HQB.out.1.2 (by unfold maxLen; omega) (by omega) (by have := HRZ.out.below; simp; omega) ?_; intro v1 V1 ho1 hg1 _ hob1; have hp1 := HRZ.out.push ((Keeps.refl (fun _ => False) Z3).alloc _) (q := q) (by rw [HQX.out]; exact ho1) hg1 hob1; obtain ⟨A5, c5, rfl⟩ := own_slice ho1; have HP1 := Lib.hid hp1; have RX1 := Lib.hid ((hp1.2.block b12 (Array.getElem?_eq_some_iff.1 RX.out).1 HNE12.out.1).trans RX.out); clear hp1; clear ho1 hg1 hob1)
                  | (refine wpList_load_row (by rfl) 71 _ (by rfl) b12 (by rfl) 71 QX.toArray (0, 0) _ RX1.out Try.underlying71 rfl SQX.out ?_)
                  | (refine wpList_build1_18 (by rfl) 29 1 0 _ (by rfl) (.agg QX.toArray) _ (by rfl) (HQB.out.1.1 V1) ?_)
                  | (refine wpList_append_own_at _ (by rfl) _ _ 29 (by rfl) B 71 ih zh 68 96 Try.underlying29 HII.out.1 HII.out.2.1 HII.out.2.2.1 HII.out.2.2.2.1 HII.out.2.2.2.2 (by decide) (.slice A2 x.asks.length c2) (x.asks.length) (qfl (x.asks)) (by rfl) (((Keeps.refl (fun _ => False) V1).alloc _).owns HP1.out.1.ra (fun _ _ => id)) ⟨V1.heap.size, 0, none⟩ 1 1 QX (by rfl) (by have := HQB.out.2; omega) (World.news_of_block (heap_alloc_new V1 _)) HQB.out.1.2 (by unfold maxLen; omega) (by omega) (by have := HP1.out.1.below; simp; omega) ?_; intro v2 V2 ho2 hg2 _ hob2; have hp2 := HP1.out.1.swapA.push ((Keeps.refl (fun _ => False) V1).alloc _) (q := q) (by rw [HQX.out]; exact ho2) hg2 hob2; obtain ⟨A6, c6, rfl⟩ := own_slice ho2; have HP2 := Lib.hid hp2; clear hp2; clear ho2 hg2 hob2)
                  | fail)
                go_roundw
                case rel => exact ⟨i + 1, ⟨x.l ++ [q], s2, x.asks ++ [q], x.lost⟩, A5, c5, A6, c6, A3, c3, by omega, rfl, by rw [List.length_append]; rfl, by rw [List.length_append]; rfl, rfl, by go_num, HTK2, Lib.hid ⟨by rw [List.length_append]; have := HM.out; simp; omega, by rw [List.length_append]; have := HM.out; simp; omega, Nat.le_succ_of_le HM.out.2.2⟩, Lib.hid (by have h := HP2.out.1.swapA; rw [List.length_append, List.length_append]; exact h), Lib.hid ((HKZ.out.trans (HP1.out.2.mono (fun j hj e => by obtain ⟨_, _, h⟩ := own_block HRZ.out.rl j e; exact h))).trans (HP2.out.2.mono (fun j hj e => by obtain ⟨_, _, h⟩ := own_block HP1.out.1.ra j e; exact h)))⟩
                case measure => simp [intOf]; omega
    · obtain rfl : i = n := by omega
      have hfin := HP.out
      rw [List.take_of_length_le (by have := HLL.out; omega)] at hfin
      have hm : x.l.length = x.l.length := rfl
      have HO9 := Lib.hid HR3.out.rl
      have HFIN := Lib.hid hfin
      clear hfin
      obtain ⟨T9, hT9⟩ : ∃ T, tcs base most budget (.slice A1 x.l.length c1) = T := ⟨_, rfl⟩
      obtain ⟨W9, hW9⟩ : ∃ V, wr.setCell ⟨b1, 3, none⟩ (.slice A1 x.l.length c1) = V := ⟨_, rfl⟩
      have f9 : wr.frozen? ⟨b1, 3, none⟩ = false := HR1W.out.frozen 3
      have rt9 : W9.heap[b1]? = some (.cells T9 31 (0, 0)) := by rw [← hW9, ← hT9]; exact HR1W.out.set 3 _
      have k79 : Keeps (fun j => B ≤ j ∨ j = b1) W7 W9 := (HKB.out.mono (fun _ _ h => Or.inl h)).trans (by rw [← hW9]; exact (Keeps.refl (fun j => B ≤ j ∨ j = b1) wr).setCell (p := ⟨b1, 3, none⟩) (fun _ => Or.inr rfl) _)
      have r49 : W9.heap[b4]? = some (.cells Z 31 (0, 0)) := ((k79.block b4 (by have := HBE.out; omega) (by have := HBE.out; omega)).trans (K47.out.block b4 (by have := HBO.out; omega) id)).trans HR4.out
      obtain ⟨W10, hW10⟩ : ∃ V, W9.setRow b4 T9 = V := ⟨_, rfl⟩
      have R10 : Hid (W10.heap[b4]? = some (.cells T9 31 (0, 0))) := Lib.hid (by rw [← hW10]; exact setRow_heap _ _ _ _ _ _ r49)
      have K10 : Hid (Keeps (fun _ => False) w W10) := Lib.hid ((((K4.out.trans K47.out).trans' k79 (fun j hj e => by have := HBE.out; omega))).trans' (T := fun j => j = b4) (by rw [← hW10]; exact Keeps.setRow _ _) (fun j hj e => by have := HBE.out; omega))
      have HO10 : Hid (W10.ownsRow w.heap.size 71 68 (.slice A1 x.l.length c1) (x.l.length) (qfl (x.l))) := Lib.hid (by
        have k1 : Keeps (fun j => j = b1 ∨ j = b4) wr W10 := ((by rw [← hW9]; exact (Keeps.refl (fun j => j = b1 ∨ j = b4) wr).setCell (p := ⟨b1, 3, none⟩) (fun _ => Or.inl rfl) _) : Keeps (fun j => j = b1 ∨ j = b4) wr W9).trans (by rw [← hW10]; exact (Keeps.setRow b4 T9).mono (fun _ _ h => Or.inr h))
        exact own_base (k1.owns HO9.out (fun b hb e => by obtain ⟨_, _, h⟩ := own_block HO9.out b hb; have := HBE.out; omega)) (by have := HBE.out; omega))
      have S9 : Hid ((Try.prog.info? 31).map (·.size) = some T9.size) := Lib.hid (by rw [← hT9]; exact size_T)
      have SZ9 : Hid (Z.size = T9.size) := Lib.hid (by have h1 := SZ.out; have h2 := S9.out; rw [h1] at h2; injection h2)
      have O9 : Hid (T9.all (·.oneCell') = true) := Lib.hid (by rw [← hT9]; exact tcs_one _ _ _ _ _ _)
      have RT9 := Lib.hid rt9
      have R49 := Lib.hid r49
      have HT9 := Lib.hid hT9
      have HLEN := Lib.hid hm
      clear rt9 k79 r49 hT9 hm
      have HRF : Hid (R3 W10 w.heap.size (.slice A1 x.l.length c1) (.slice A2 x.asks.length c2) (.slice A3 x.lost.length c3) x.l x.asks x.lost) := Lib.hid (by
        have k1 : Keeps (fun j => j = b1) wr W9 := by rw [← hW9]; exact (Keeps.refl (fun j => j = b1) wr).setCell (p := ⟨b1, 3, none⟩) (fun _ => rfl) _
        have k2 : Keeps (fun j => j = b4) W9 W10 := by rw [← hW10]; exact Keeps.setRow b4 T9
        exact (((HR3.out.keeps k1 (fun b e => by subst e; exact HR3.out.low (by omega))).keeps k2 (fun b e => by subst e; exact HR3.out.low (by have := HBE.out; omega)))).base (by have := HBE.out; omega))
      go_wp2_with (first
        | (refine wpList_load_row (by rfl) 31 _ (by rfl) b1 (by rfl) 31 T9 (0, 0) _ RT9.out Try.underlying31 rfl S9.out ?_)
        | (refine wpList_store_row (by rfl) 31 _ _ (by rfl) b4 T9 (by rfl) (by rfl) 31 Z R49.out S9.out SZ9.out O9.out ?_; rw [hW10])
        | fail)
      refine bodyPost_ret (results_cell_three rfl _ _ b4 31 T9 (0, 0) _ rfl R10.out Try.underlying31 rfl S9.out) rfl ?_
      refine ⟨A1, c1, A2, c2, A3, c3, ?_, K10.out, ?_⟩
      · rw [HFIN.out, HT9.out]; rfl
      · rw [HFIN.out]; have h := HRF.out; rw [HBE.out.2.2.2] at h; exact h
end Go.Proofs.Ythnpgiagajfaiaa
