/-
  The document's own answers for proofs that a tree goes on (assayerref04): the steps, and how long a proof is. WRITTEN BY wip/gen/mkrg.py.
-/
import Derived.Test.YtnnhbgaeohdojaaDoorRfS
import Derived.Test.YtnnhbgaeohdojaaDoorTrM
namespace Go.Proofs.YtnnhbgaeohdojaaDoor
open Go.RowKit Go.BigFrame
set_option linter.unusedVariables false

set_option maxRecDepth 100000 in
set_option maxHeartbeats 2000000 in
theorem rsteps_any (m n : Nat) (w : World) (hm1 : 1 ≤ m) (hmn : m ≤ n) (hn : n ≤ 18446744073709551615) :
    Calls Tryd.prog 54 #[.int .u64 (m : Int), .int .u64 (n : Int)] w fun e w' => ∃ A c, e = .returned (.tuple #[.slice A (Tr.stp m n true).1.length c, .bool (Tr.stp m n true).2]) ∧ w'.ownsRow w.heap.size 4 1 (.slice A (Tr.stp m n true).1.length c) (Tr.stp m n true).1.length ((Tr.stp m n true).1.map Value.bool) ∧ Keeps (fun _ => False) w w' := by
  have hL64 := (Tr.stp_length 64 m n true (Tr.deep_le (by omega)) hm1 hmn (by omega)).1
  obtain ⟨⟨Ls, ww⟩, hLw⟩ : ∃ s, Tr.stp m n true = s := ⟨_, rfl⟩
  rw [hLw] at hL64 ⊢
  simp only at hL64 ⊢
  have hst1 : ([] : List Bool) ++ (Tr.stp m n true).1 = Ls := by rw [hLw]; rfl
  have hst2 : (Tr.stp m n true).2 = ww := by rw [hLw]
  obtain ⟨i0, hi0, hz0, hs0, hb0⟩ := info_parts (show (Tryd.prog.info? 4).map (fun i => (i.zero, i.size, i.bytes)) = some (some (.bool false), 1, 1) by kernel_rfl)
  have HL := Lib.hid hL64
  clear hLw hL64
  go_enter Tryd.func54, Tryd.ntmps54
  go_wp2_with fail
  go_loopw [0, 1, 6, 7] (fun xv yv lv qv wr => ∃ (x y : Nat) (q : Bool) (ls : List Bool) (A1 : Option Addr) (c1 : Nat), xv = .int .u64 (x : Int) ∧ yv = .int .u64 (y : Int) ∧ lv = .slice A1 ls.length c1 ∧ qv = .bool q ∧ 1 ≤ x ∧ x ≤ y ∧ y ≤ 18446744073709551615 ∧ Hid (ls ++ (Tr.stp x y q).1 = Ls) ∧ Hid ((Tr.stp x y q).2 = ww) ∧ Hid (wr.ownsRow w.heap.size 4 1 (.slice A1 ls.length c1) ls.length (ls.map Value.bool)) ∧ Hid (Keeps (fun k => w.heap.size ≤ k) w wr)) (fun _ yv _ _ _ => (intOf yv).toNat)
  case atStart => exact ⟨m, n, true, [], none, 0, rfl, rfl, rfl, rfl, hm1, hmn, hn, Lib.hid hst1, Lib.hid hst2, Lib.hid (World.ownsRow_nil _ _ _ _), Lib.hid (Keeps.refl _ _)⟩
  case round =>
    clear hm1 hmn hn hst1 hst2
    obtain ⟨x, y, q, ls, A1, c1, rfl, rfl, rfl, rfl, hx1, hxy, hy, hs1, hs2, HO, HK⟩ := hrel
    obtain ⟨l, hl⟩ : ∃ l, ls.length = l := ⟨_, rfl⟩
    have HLN := Lib.hid hl
    rw [hl] at HO ⊢
    have hl64 : l ≤ 64 := by
      have h1 := congrArg List.length hs1.out
      have h2 := HL.out
      rw [List.length_append, hl] at h1
      omega
    clear hl
    rcases Nat.eq_or_lt_of_le hxy with rfl | hlt
    · have h1 := hs1.out
      have h2 := hs2.out
      rw [Tr.stp_eq] at h1 h2
      simp only [List.append_nil] at h1 h2
      subst h1
      subst h2
      have hm2 : ¬ (x : Int) < x := by omega
      have HFIN := Lib.hid (And.intro HO.out (HK.out.mono (T := fun _ => False) (fun k hk h => by omega)))
      have HLL := HLN.out
      clear hs1 hs2 HO HK HL
      go_wp2
      go_ret2
      exact ⟨A1, c1, by first | rfl | (rw [HLL]; rfl), by first | exact HFIN.out.1 | (rw [HLL]; exact HFIN.out.1), HFIN.out.2⟩
    · have h2 : 2 ≤ y := by omega
      have a := Tr.split_pos h2
      have b := Tr.split_lt h2
      have e1 := hs1.out
      have e2 := hs2.out
      rw [Tr.stp_more q hx1 hlt (by omega)] at e1 e2
      have hsp := fun V => rsplit_any y V hy
      obtain ⟨k, hk⟩ : ∃ k, Tr.split y = k := ⟨_, rfl⟩
      rw [hk] at a b e1 e2 hsp
      have HSP := Lib.hid hsp
      have hm2 : (x : Int) < y := by omega
      have hl70 : (l : Int) < 70 := by omega
      clear hsp hk hs1 hs2
      by_cases hjk : x ≤ k
      · rw [if_pos hjk] at e1 e2
        simp only at e1 e2
        rw [← List.singleton_append] at e1
        have HST := Lib.hid (And.intro e1 e2)
        have hjk' : (x : Int) ≤ k := by omega
        clear e1 e2
        go_wp2_with (first
          | (go_at_call 20; refine (HSP.out _).mono ?_; rintro e w' ⟨rfl, rfl⟩)
          | (refine wpList_append_own _ (by rfl) (.tmp 19) (.tmp 23) 76 (by rfl) w.heap.size 4 i0 (.bool false) 1 1 Tryd.underlying76 hi0 hz0 hs0 hb0 rfl (by decide) (.slice A1 l c1) l (ls.map Value.bool) (by rfl) (Keeps.owns (S := fun _ => False) ((Keeps.refl _ _).alloc _) HO.out (fun _ _ => id)) ⟨w'.heap.size, 0, none⟩ 1 1 [.bool true] (by rfl) (by rfl) (World.news_of_block (heap_alloc_new w' _)) (by intro u hu; rw [List.mem_singleton] at hu; subst hu; rfl) (by unfold maxLen; omega) (by omega) (by have := HK.out.size; simp; omega) ?_; intro v3 w3 ho3 hg3 _; have HO3 := Lib.hid ho3; have HG3 := Lib.hid hg3; obtain ⟨A3, c3, rfl⟩ := own_slice ho3; clear ho3 hg3))
        go_roundw
        case rel =>
          refine ⟨x, k, q, ls ++ [true], A3, c3, by go_num, by go_num, by rw [List.length_append, List.length_singleton, HLN.out], rfl, by omega, by omega, by omega, Lib.hid (by rw [List.append_assoc]; exact HST.out.1), Lib.hid HST.out.2, Lib.hid ?_, Lib.hid ?_⟩
          · rw [List.map_append, List.length_append, List.length_singleton, HLN.out]
            exact HO3.out
          · exact (HK.out.alloc _).grown HG3.out (fun k hk hr => by
              obtain ⟨_, _, hb⟩ := own_block HO.out k hr
              exact hb)
        case measure => simp [intOf]; omega
      · rw [if_neg hjk] at e1 e2
        simp only at e1 e2
        rw [← List.singleton_append] at e1
        have HST := Lib.hid (And.intro e1 e2)
        have hjk' : ¬ (x : Int) ≤ k := by omega
        clear e1 e2
        go_wp2_with (first
          | (go_at_call 20; refine (HSP.out _).mono ?_; rintro e w' ⟨rfl, rfl⟩)
          | (refine wpList_append_own _ (by rfl) (.tmp 19) (.tmp 23) 76 (by rfl) w.heap.size 4 i0 (.bool false) 1 1 Tryd.underlying76 hi0 hz0 hs0 hb0 rfl (by decide) (.slice A1 l c1) l (ls.map Value.bool) (by rfl) (Keeps.owns (S := fun _ => False) ((Keeps.refl _ _).alloc _) HO.out (fun _ _ => id)) ⟨w'.heap.size, 0, none⟩ 1 1 [.bool false] (by rfl) (by rfl) (World.news_of_block (heap_alloc_new w' _)) (by intro u hu; rw [List.mem_singleton] at hu; subst hu; rfl) (by unfold maxLen; omega) (by omega) (by have := HK.out.size; simp; omega) ?_; intro v3 w3 ho3 hg3 _; have HO3 := Lib.hid ho3; have HG3 := Lib.hid hg3; obtain ⟨A3, c3, rfl⟩ := own_slice ho3; clear ho3 hg3))
        go_roundw
        case rel =>
          refine ⟨x - k, y - k, false, ls ++ [false], A3, c3, by go_num, by go_num, by rw [List.length_append, List.length_singleton, HLN.out], rfl, by omega, by omega, by omega, Lib.hid (by rw [List.append_assoc]; exact HST.out.1), Lib.hid HST.out.2, Lib.hid ?_, Lib.hid ?_⟩
          · rw [List.map_append, List.length_append, List.length_singleton, HLN.out]
            exact HO3.out
          · exact (HK.out.alloc _).grown HG3.out (fun k hk hr => by
              obtain ⟨_, _, hb⟩ := own_block HO.out k hr
              exact hb)
        case measure => simp [intOf]; omega
set_option maxRecDepth 100000 in
set_option maxHeartbeats 1000000 in
theorem rlong_in (m n : Nat) (w : World) (hm1 : 1 ≤ m) (hmn : m ≤ n) (hn : n ≤ 18446744073709551615) :
    Calls Tryd.prog 28 #[.int .u64 (m : Int), .int .u64 (n : Int)] w fun e w' => e = .returned (.int .i64 (Tr.lng m n true : Int)) ∧ Keeps (fun _ => False) w w' := by
  obtain ⟨h1, h2⟩ := Tr.stp_length 64 m n true (Tr.deep_le (by omega)) hm1 hmn (by omega)
  have hst := rsteps_any m n w hm1 hmn hn
  rw [h2]
  obtain ⟨⟨Ls, ww⟩, hLw⟩ : ∃ s, Tr.stp m n true = s := ⟨_, rfl⟩
  rw [hLw] at hst h1 ⊢
  simp only at hst h1 ⊢
  obtain ⟨l, hl⟩ : ∃ l, Ls.length = l := ⟨_, rfl⟩
  rw [hl] at hst h1 ⊢
  have HST := Lib.hid hst
  have q1 : ¬ (m : Int) < 1 := by omega
  have q2 : ¬ (n : Int) < m := by omega
  have q3 : (l : Int) ≤ 64 := by omega
  clear hst hLw h2 hl hm1 hmn hn
  cases ww
  · rw [if_neg (by decide)]
    go_enter Tryd.func28, Tryd.ntmps28
    go_wp2_with fail
    refine HST.out.mono ?_
    rintro e1 w1 ⟨A, c, rfl, _, k1⟩
    go_wp2
    go_ret
    exact ⟨rfl, k1⟩
  · rw [if_pos rfl]
    go_enter Tryd.func28, Tryd.ntmps28
    go_wp2_with fail
    refine HST.out.mono ?_
    rintro e1 w1 ⟨A, c, rfl, _, k1⟩
    go_wp2
    go_ret
    exact ⟨rfl, k1⟩
end Go.Proofs.YtnnhbgaeohdojaaDoor
