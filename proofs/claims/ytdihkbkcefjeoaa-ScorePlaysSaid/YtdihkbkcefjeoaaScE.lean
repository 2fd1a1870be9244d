/-
  A new table; who isn't kept away.
-/
import Derived.Test.YtdihkbkcefjeoaaScD
namespace Go.Proofs.Ytdihkbkcefjeoaa
open Go.RowKit Go.BigFrame
set_option linter.unusedVariables false
set_option linter.unusedSimpArgs false

theorem new_not (many limit hold : Int) (w : World) (h : ¬ ((1 ≤ many ∧ many ≤ 64) ∧ (1 ≤ limit ∧ limit ≤ 1000) ∧ (1 ≤ hold ∧ hold ≤ 1000))) :
    Calls Try.prog 8 #[.int .i64 many, .int .i64 limit, .int .i64 hold] w fun e w' => e = .returned (.tuple #[.pointer none, .int .i64 1]) ∧ w' = w := by
  have h1 := fun V => within_any many 1 64 V
  have h2 := fun V => within_any limit 1 1000 V
  have h3 := fun V => within_any hold 1 1000 V
  by_cases c1 : 1 ≤ many ∧ many ≤ 64
  · by_cases c2 : 1 ≤ limit ∧ limit ≤ 1000
    · have c3 : ¬ (1 ≤ hold ∧ hold ≤ 1000) := fun c3 => h ⟨c1, c2, c3⟩
      rw [decide_eq_true c1] at h1
      rw [decide_eq_true c2] at h2
      rw [decide_eq_false c3] at h3
      have H1 := Lib.hid h1
      have H2 := Lib.hid h2
      have H3 := Lib.hid h3
      clear h h1 h2 h3 c1 c2 c3
      go_enter Try.func8, Try.ntmps8
      go_wp2_with fail
      refine (H1.out _).mono ?_
      rintro e w1 ⟨rfl, e1⟩
      obtain rfl : w = w1 := e1.symm
      go_wp2_with fail
      refine (H2.out _).mono ?_
      rintro e w1 ⟨rfl, e1⟩
      obtain rfl : w = w1 := e1.symm
      go_wp2_with fail
      refine (H3.out _).mono ?_
      rintro e w1 ⟨rfl, e1⟩
      obtain rfl : w = w1 := e1.symm
      go_wp2
      go_ret2
      exact ⟨rfl, rfl⟩
    · rw [decide_eq_true c1] at h1
      rw [decide_eq_false c2] at h2
      have H1 := Lib.hid h1
      have H2 := Lib.hid h2
      clear h h1 h2 h3 c1 c2
      go_enter Try.func8, Try.ntmps8
      go_wp2_with fail
      refine (H1.out _).mono ?_
      rintro e w1 ⟨rfl, e1⟩
      obtain rfl : w = w1 := e1.symm
      go_wp2_with fail
      refine (H2.out _).mono ?_
      rintro e w1 ⟨rfl, e1⟩
      obtain rfl : w = w1 := e1.symm
      go_wp2
      go_ret2
      exact ⟨rfl, rfl⟩
  · rw [decide_eq_false c1] at h1
    have H1 := Lib.hid h1
    clear h h1 h2 h3 c1
    go_enter Try.func8, Try.ntmps8
    go_wp2_with fail
    refine (H1.out _).mono ?_
    rintro e w1 ⟨rfl, e1⟩
    obtain rfl : w = w1 := e1.symm
    go_wp2
    go_ret2
    exact ⟨rfl, rfl⟩
set_option maxRecDepth 100000 in
set_option maxHeartbeats 2000000 in
theorem new_any (many : Nat) (limit hold : Int) (w : World) (c1 : 1 ≤ many ∧ many ≤ 64) (c2 : 1 ≤ limit ∧ limit ≤ 1000) (c3 : 1 ≤ hold ∧ hold ≤ 1000) :
    Calls Try.prog 8 #[.int .i64 (many : Int), .int .i64 limit, .int .i64 hold] w fun e w' => ∃ g b, e = .returned (.tuple #[.pointer (some ⟨g, 0, none⟩), .int .i64 0]) ∧ w.heap.size ≤ g ∧ w.heap.size ≤ b ∧ TabAt w' g b (Sc.new many limit hold) ∧ Keeps (fun _ => False) w w' := by
  have h1 := fun V => within_any (many : Int) 1 64 V
  have h2 := fun V => within_any limit 1 1000 V
  have h3 := fun V => within_any hold 1 1000 V
  rw [decide_eq_true (show (1 : Int) ≤ many ∧ (many : Int) ≤ 64 by omega)] at h1
  rw [decide_eq_true c2] at h2
  rw [decide_eq_true c3] at h3
  have H1 := Lib.hid h1
  have H2 := Lib.hid h2
  have H3 := Lib.hid h3
  have HOK := Lib.hid (Sc.new_ok c1 c2 c3)
  have HM := Lib.hid c1
  have hmm := @run_makeMap Try.prog
  obtain ⟨bw, hbw⟩ : ∃ x, w.heap.size = x := ⟨_, rfl⟩
  obtain ⟨W1, hW1⟩ : ∃ W, w.alloc (.map #[] 0) = W := ⟨_, rfl⟩
  have m1 : PMap W1 bw [] := by rw [← hW1, ← hbw]; exact PMap.made w
  have k1 : Keeps (fun _ => False) w W1 := by rw [← hW1]; exact (Keeps.refl _ _).alloc _
  have M1 := Lib.hid m1
  have K1 := Lib.hid k1
  have HB : Hid (∀ V : World, (Instr.build 40 #[]).run Try.prog V = .ok (pv (0, 0)) V) := Lib.hid (fun V => build_peer_none V)
  clear h1 h2 h3 c1 c2 c3 m1 k1
  go_enter Try.func8, Try.ntmps8
  go_wp2_with fail
  refine (H1.out _).mono ?_
  rintro e w1 ⟨rfl, e1⟩
  obtain rfl : w = w1 := e1.symm
  go_wp2_with fail
  refine (H2.out _).mono ?_
  rintro e w1 ⟨rfl, e1⟩
  obtain rfl : w = w1 := e1.symm
  go_wp2_with fail
  refine (H3.out _).mono ?_
  rintro e w1 ⟨rfl, e1⟩
  obtain rfl : w = w1 := e1.symm
  have HBW := Lib.hid hbw
  go_wp2
  go_loopw [9, 25] (fun _ iv wr => ∃ i : Nat, i ≤ many ∧ iv = .int .i64 (i : Int) ∧ Hid (PMap wr bw (List.replicate i (0, 0))) ∧ Hid (Keeps (fun _ => False) w wr)) (fun _ iv _ => many - (intOf iv).toNat)
  case atStart => exact ⟨0, by omega, rfl, M1, K1⟩
  case round =>
    obtain ⟨i, hi, rfl, M, K⟩ := hrel
    by_cases hlt : i < many
    · have hii : (i : Int) < (many : Int) := by omega
      have h64 : i ≤ 64 := by have := HM.out; omega
      go_wp2_with (first
        | (refine wpList_made (by rfl) 40 [] (by rfl) [] (by rfl) (pv (0, 0)) HB.out ?_)
        | (refine wpList_pmap_push (by rfl) _ _ _ 59 3 40 (by rfl) Try.underlying59 Try.underlying3 bw (List.replicate i (0, 0)) i (by simp) (0, 0) (by rfl) (by rfl) (by rfl) M.out ?_; intro w7 m7 k7; have M7 := Lib.hid m7; have K7 := Lib.hid k7; clear m7 k7))
      go_roundw
      case rel => exact ⟨i + 1, by omega, by go_num, Lib.hid (by rw [List.replicate_succ']; exact M7.out), Lib.hid (K.out.trans' K7.out (fun j hj e => by have := HBW.out; omega))⟩
      case measure => simp [intOf]; omega
    · obtain rfl : i = many := by omega
      obtain ⟨g, hg⟩ : ∃ x, wr.heap.size = x := ⟨_, rfl⟩
      obtain ⟨W8, hW8⟩ : ∃ W, wr.alloc (.cells #[.map (some bw), .int .i64 limit, .int .i64 hold] 61) = W := ⟨_, rfl⟩
      have k8 : Keeps (fun _ => False) wr W8 := by rw [← hW8]; exact (Keeps.refl _ _).alloc _
      have t8 : TabAt W8 g bw (Sc.new i limit hold) := ⟨by rw [← hW8, ← hg]; exact heap_alloc_new wr _, M.out.keeps k8 id, HOK.out⟩
      have FIN := Lib.hid (And.intro t8 (And.intro (K.out.trans k8) (show w.heap.size ≤ g by have := K.out.size; omega)))
      clear k8 t8
      go_wp2
      go_ret2
      exact ⟨g, bw, rfl, FIN.out.2.2, Nat.le_of_eq HBW.out, FIN.out.1, FIN.out.2.1⟩
end Go.Proofs.Ytdihkbkcefjeoaa
