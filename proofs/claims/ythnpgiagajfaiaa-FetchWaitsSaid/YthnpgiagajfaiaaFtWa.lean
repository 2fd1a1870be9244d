/-
  FetchWaits: of a base of one it is asked for at once, and then behind 1, 2, 4 ticks and so on. By the program's contracts.
-/
import Derived.Test.YthnpgiagajfaiaaFtG
import Derived.Laws.BitsLemmas
namespace Go.Proofs.Ythnpgiagajfaiaa
open Go.RowKit Go.BigFrame Go.Deep
set_option linter.unusedVariables false
set_option linter.unusedSimpArgs false
variable {At : World → (Nat → Prop) → Nat → Ft.Tb → Prop}
set_option maxRecDepth 100000 in
set_option maxHeartbeats 1000000 in
theorem waits18_walk (C : Fetch At) (most budget : Nat) (W : World) (hm : most ≤ 65535) (hb : budget ≤ 255) :
    Calls Try.prog 7 #[.int .u16 (most : Int), .int .u8 (budget : Int)] W fun e w' => e = .returned (.bool true) ∧ Below W.heap.size W w' := by
  have HAW := Lib.hid (awake18_any C W)
  have CC := Lib.hid C
  obtain ⟨ZW, hZW⟩ : ∃ Z, (wcs ((0, List.replicate 32 0), (0, List.replicate 32 0))).toArray = Z := ⟨_, rfl⟩
  have hzw : ∀ V : World, (zeroValue 41).run Try.prog V = .ok (.agg ZW) V := fun V => by rw [← hZW]; exact zero_want V
  have HBZ : Hid (∀ V : World, (Instr.build 41 #[]).run Try.prog V = .ok (.agg ZW) V) := Lib.hid (fun V => by rw [← hZW]; exact build_want_none V)
  have HZW := Lib.hid hZW
  have ZK : Ft.Wn.Ok ((0, List.replicate 32 0), (0, List.replicate 32 0)) := Ft.zero_ok
  obtain ⟨zk, hzk⟩ : ∃ k : Ft.Wn, ((0, List.replicate 32 0), (0, List.replicate 32 0)) = k := ⟨_, rfl⟩
  rw [hzk] at ZK hZW
  clear hzk
  clear C HZW
  go_enter Try.func7, Try.ntmps7
  go_wp2_with fail
  refine HAW.out.mono ?_
  rintro e w1 ⟨rfl, k1⟩
  have K1 := Lib.hid k1
  clear k1
  go_wp2_with fail
  obtain ⟨c, hc⟩ : ∃ c : Nat, (most : Int) % 100 + 1 = (c : Int) := ⟨most % 100 + 1, by omega⟩
  obtain ⟨n, hn⟩ : ∃ c : Nat, (budget : Int) % 12 + 1 = (c : Int) := ⟨budget % 12 + 1, by omega⟩
  have hcr : 1 ≤ c ∧ c ≤ 100 := by omega
  have hnr : 1 ≤ n ∧ n ≤ 12 := by omega
  rw [hc, hn]
  have hnew := CC.out.new_on w1 1 c n (by omega)
  rw [show ((1 : Nat) : Int) = 1 from rfl] at hnew
  refine hnew.mono ?_
  clear hnew hc hn
  rintro e w2 ⟨g, F, rfl, a2, hF, k2⟩
  have h3 := CC.out.start zk a2 ZK
  have hF2 : ∀ j, F j → W.heap.size ≤ j := fun j hj => by have := hF j hj; have := K1.out.size; omega
  have K2 : Hid (Keeps (fun _ => False) W w2) := Lib.hid (K1.out.trans k2)
  rw [hZW] at h3
  have H3 := Lib.hid h3
  have HF2 := Lib.hid hF2
  clear h3 hF2 a2 hF k2
  go_wp2_with (first
    | (refine wpList_made (by rfl) 41 [] (by rfl) [] (by rfl) (.agg ZW) HBZ.out ?_)
    | fail)
  refine H3.out.mono ?_
  rintro e w3 ⟨F3, rfl, a3, hF3, k3⟩
  have hF3' : ∀ j, F3 j → W.heap.size ≤ j := fun j hj => by
    rcases hF3 j hj with h | h
    · exact HF2.out j h
    · have := K2.out.size; omega
  have h4 := Gm.dnew CC.out 5#64 a3 hF3' (K2.out.trans' k3 (fun j hj e => by have := HF2.out j e; omega))
  rw [show di 5#64 = 5 from rfl] at h4
  have H4 := Lib.hid h4
  clear h4 hF3' a3 hF3 k3
  go_wp2_with fail
  refine H4.out.mono ?_
  rintro e w4 ⟨d, rfl, G4', _, _⟩
  have G4 : Hid (Gm At W w4 F3 g d ⟨1, c, n, [⟨zk, 0, 1⟩]⟩ 5#64) := Lib.hid G4'
  clear G4'
  go_wp2_with fail
  go_loopw [11, 12, 13, 14, 15, 16] (fun nv wv av iv _ _ wr => ∃ (i next asks wt : Nat) (F' : Nat → Prop) (q : Ft.Q), 1 ≤ i ∧ i ≤ next ∧ next ≤ 1 + 100 * asks ∧ asks ≤ n ∧ 2 ^ asks = wt ∧ nv = .int .i64 (next : Int) ∧ wv = .int .i64 (wt : Int) ∧ av = .int .i64 (asks : Int) ∧ iv = .int .i64 (i : Int) ∧ q.tries = asks ∧ q.left = (next : Int) - (i : Int) + 1 ∧ Hid (Gm At W wr F' g d ⟨1, c, n, [q]⟩ 5#64)) (fun _ _ _ iv _ _ _ => 1301 - (intOf iv).toNat)
  case atStart => exact ⟨1, 1, 0, 1, F3, ⟨zk, 0, 1⟩, by omega, by omega, by omega, by omega, rfl, rfl, rfl, rfl, rfl, rfl, rfl, G4⟩
  case round =>
    obtain ⟨i, next, asks, wt, F', q, hi1, hin, hna, han, hwt, rfl, rfl, rfl, rfl, hqt, hql, HG⟩ := hrel
    have hi13 : (i : Int) ≤ 1300 := by omega
    have hwt4 : wt ≤ 4096 ∧ 1 ≤ wt := by
      rw [← hwt]
      exact ⟨Nat.le_trans (Nat.pow_le_pow_right (show 0 < 2 by decide) (show asks ≤ 12 by omega)) (by decide), Nat.one_le_two_pow⟩
    by_cases hlt : i < next
    · have hii : (i : Int) < (next : Int) := by omega
      have ht := HG.out.tick CC.out (show [q].length ≤ 1000 by simp) (Ft.one_on 1 c n 5#64 q (by omega))
      have HT := Lib.hid ht
      clear ht
      go_wp2_with fail
      refine HT.out.mono ?_
      rintro e w5 ⟨F5, A5, c5, A6, c6, rfl, g5, _, _, _⟩
      have G5 : Hid (Gm At W w5 F5 g d ⟨1, c, n, [{ q with left := q.left - 1 }]⟩ 5#64) := Lib.hid g5
      clear g5
      simp only [List.length_nil]
      go_wp2
      go_roundw
      case rel => exact ⟨i + 1, next, asks, wt, F5, { q with left := q.left - 1 }, by omega, by omega, by omega, by omega, hwt, rfl, rfl, rfl, by go_num, hqt, by show q.left - 1 = _; rw [hql]; push_cast; omega, G5⟩
      case measure => simp [intOf]; omega
    · have hii : ¬ ((i : Int) < (next : Int)) := by omega
      have hie : i = next := by omega
      subst hie
      by_cases hga : asks = n
      · have hgg : (asks : Int) = (n : Int) := by omega
        have ht := HG.out.tick CC.out (show [q].length ≤ 1000 by simp) (Ft.one_gone 1 c n 5#64 q (by omega) (by omega))
        have HT := Lib.hid ht
        clear ht
        go_wp2_with fail
        refine HT.out.mono ?_
        rintro e w5 ⟨F5, A5, c5, A6, c6, rfl, g5, _, _, _⟩
        have G5 : Hid (Gm At W w5 F5 g d ⟨1, c, n, []⟩ 5#64) := Lib.hid g5
        clear g5
        simp only [List.length_nil, List.length_singleton]
        go_wp2_with fail
        refine (G5.out.open CC.out (by show 0 ≤ 1000; omega)).mono ?_
        rintro e w6 ⟨A7, c7, rfl, _, G6, _⟩
        have K6 := Lib.hid G6.keeps
        clear G6
        simp only [List.length_nil]
        go_wp2
        go_ret
        exact ⟨rfl, K6.out.below (Nat.le_refl _) (fun _ _ => id)⟩
      · have hgg : ¬ ((asks : Int) = (n : Int)) := by omega
        have ht := HG.out.tick CC.out (show [q].length ≤ 1000 by simp) (Ft.one_told 1 c n 5#64 q (by omega) (by omega))
        have HT := Lib.hid ht
        clear ht
        go_wp2_with fail
        refine HT.out.mono ?_
        rintro e w5 ⟨F5, A5, c5, A6, c6, rfl, g5, _, _, _⟩
        have G5 : Hid (Gm At W w5 F5 g d ⟨1, c, n, [{ q with tries := q.tries + 1, left := ((min wt c : Nat) : Int) }]⟩ 5#64) := Lib.hid (by
          have h0 : Di.bel 5#64 ((1 : Nat) : Int) = (5#64, 0) := Di.bel_low (by omega)
          have h1 : Ft.wait 1 c q.tries = min wt c := by unfold Ft.wait; rw [hqt, hwt, Nat.one_mul]
          rw [h0, h1] at g5
          simpa using g5)
        clear g5
        simp only [List.length_nil, List.length_singleton]
        go_wp2
        go_roundw
        case rel => exact ⟨i + 1, i + min wt c, asks + 1, 2 * wt, F5, { q with tries := q.tries + 1, left := ((min wt c : Nat) : Int) }, by omega, by omega, by omega, by omega, by rw [Nat.pow_succ, hwt, Nat.mul_comm], by go_num, by go_num, by go_num, by go_num, by show q.tries + 1 = _; rw [hqt], by show ((min wt c : Nat) : Int) = _; push_cast; omega, G5⟩
        case measure => simp [intOf]; omega
theorem waits18_all (C : Fetch At) (a0 a1 : Int) (W : World) (w0 : (Lit.int .u16 a0).wf = true) (w1 : (Lit.int .u8 a1).wf = true) :
    Calls Try.prog 7 #[.int .u16 a0, .int .u8 a1] W fun e w' => e = .returned (.bool true) ∧ Below W.heap.size W w' := by
  obtain ⟨m, rfl, hm⟩ := wf_u16 w0
  obtain ⟨n, rfl, hn⟩ := wf_u8 w1
  exact waits18_walk C m n W hm hn
end Go.Proofs.Ythnpgiagajfaiaa
