/-
  Rows of bytes are put behind one another (slices.Grow, slices.Concat); what is hashed (leafRow, nodeRow), and its narrow hash (narrow).
-/
import Derived.Test.YtjblnjeloimbgaaDoorClA
import Derived.Test.YtjblnjeloimbgaaDoorWalkE
import Derived.Test.YtjblnjeloimbgaaDoorShaN
import Derived.Lib.AppendZerosOnto
namespace Go.Proofs.YtjblnjeloimbgaaDoor
open Go.RowKit Go.BigFrame
set_option linter.unusedVariables false

theorem grow_zero (w : World) : Calls Tryd.prog 48 #[.slice none 0 0, .int .i64 0] w fun e w' => e = .returned (.slice none 0 0) ∧ w' = w := by
  go_enter Tryd.func48, Tryd.ntmps48
  go_wp2
  go_ret
  exact ⟨rfl, rfl⟩
set_option maxRecDepth 100000 in
set_option maxHeartbeats 1000000 in
theorem grow_some (n : Nat) (hn : 0 < n) (hm : n ≤ 1000000) (w : World) : Calls Tryd.prog 48 #[.slice none 0 0, .int .i64 (n : Int)] w fun e w' => ∃ c, e = .returned (.slice (some ⟨w.heap.size, 0, none⟩) 0 c) ∧ w'.ownsRow w.heap.size 5 1 (.slice (some ⟨w.heap.size, 0, none⟩) 0 c) 0 [] ∧ Keeps (fun _ => False) w w' := by
  obtain ⟨u0, hu0, hu1, hu2, hu3⟩ := info_parts info_u8t
  obtain ⟨W1, hW1⟩ : ∃ V, w.drew.alloc (.cells (#[] ++ Builtin.zeroCells (Value.int .u8 0).cells n ++ Builtin.zeroCells (Value.int .u8 0).cells (grownCap w (0 + n) 0 5 - (0 + n))) 5) = V := ⟨_, rfl⟩
  have hge := grownCap_ge w (0 + n) 0 5
  have hle := grownCap_le_maxLen w (0 + n) 0 5 (by unfold maxLen; omega)
  have hrz : ∀ ty, (Builtin.append_ #[23, 3] ty #[.slice none 0 0, .int .i64 (n : Int)]).run Tryd.prog w = .ok (.slice (some ⟨w.heap.size, 0, none⟩) n (grownCap w (0 + n) 0 5)) W1 := fun ty => by
    have h := Lib.run_append_grow_zeros (P := Tryd.prog) w 23 3 ty 5 u0 (.int .u8 0) .i64 .i64 Tryd.underlying23 Tryd.underlying3 hu0 hu1 none 0 0 []
      (by exact run_firstCells_none w.drew u0.size 0 0 0) n hn (by omega) (by omega) (by omega) (by rw [hu3]; omega) (by
        rw [hu3]
        exact growslice_fits (by omega) (by omega))
    rw [Nat.zero_add] at h ⊢
    rw [h, ← hW1]
    simp
  obtain ⟨G, hG⟩ : ∃ G, grownCap w (0 + n) 0 5 = G := ⟨_, rfl⟩
  rw [hG] at hrz hge hle hW1
  have hk : Keeps (fun _ => False) w W1 := by rw [← hW1]; exact (Keeps.refl _ _).drew.alloc _
  have hown : W1.ownsRow w.heap.size 5 1 (.slice (some ⟨w.heap.size, 0, none⟩) 0 G) 0 [] := by
    refine ⟨rfl, .inr ⟨w.heap.size, G, _, rfl, Nat.le_refl _, by rw [← hW1]; exact heap_alloc_new w.drew _, Nat.zero_le _, hle, ?_, by simp⟩⟩
    simp [Builtin.zeroCells, Value.cells]
    omega
  have hG63 : (G : Int) ≤ 9223372036854775807 := by unfold maxLen at hle; omega
  have hn0 : (0 : Int) < n := by omega
  have hn1 : (n : Int) ≤ 1000000 := by omega
  have hnG : (n : Int) ≤ G := by omega
  have HK := Lib.hid hk
  have HO := Lib.hid hown
  clear hk hown hge hle hG hW1 hn hm hu0 hu1 hu2 hu3
  go_enter Tryd.func48, Tryd.ntmps48
  have HR := Lib.hid hrz
  clear hrz
  go_wp2_with (refine wpList_append_run (by rfl) (.tmp 20) (.tmp 21) 23 3 (by rfl) _ _ _ W1 (by rfl) (by rfl) (HR.out _) ?_)
  go_ret
  exact ⟨G, by rfl, HO.out, HK.out⟩
theorem grow_any (n : Nat) (hm : n ≤ 1000000) (w : World) : Calls Tryd.prog 48 #[.slice none 0 0, .int .i64 (n : Int)] w fun e w' => ∃ v, e = .returned v ∧ w'.ownsRow w.heap.size 5 1 v 0 [] ∧ Keeps (fun _ => False) w w' := by
  rcases Nat.eq_zero_or_pos n with h | h
  · subst h
    refine (grow_zero w).mono ?_
    rintro e w' ⟨rfl, rfl⟩
    exact ⟨_, rfl, World.ownsRow_nil _ _ _ _, Keeps.refl _ _⟩
  · refine (grow_some n h hm w).mono ?_
    rintro e w' ⟨c, rfl, h1, h2⟩
    exact ⟨_, rfl, h1, h2⟩
theorem bytesOf_le (rs : List RowOf) (i : Nat) : (bytesOf (rs.take i)).length ≤ (bytesOf rs).length := by
  have h1 : bytesOf rs = bytesOf (rs.take i) ++ bytesOf (rs.drop i) := by unfold bytesOf; rw [← List.flatMap_append, List.take_append_drop]
  have h2 := congrArg List.length h1
  rw [List.length_append] at h2
  omega
/-- Bytes lie in a block of bytes. -/
def T8 (w : World) (A : Option Addr) : Prop := ∀ a, A = some a → ∃ cs fr, w.heap[a.block]? = some (.cells cs 5 fr)
set_option maxRecDepth 100000 in
set_option maxHeartbeats 2000000 in
/-- Rows are put behind one another, in new memory. -/
theorem concat_any (a : Addr) (c : Nat) (rs : List RowOf) (w : World) (hR : RowsAt w (some a) rs) (hn : rs.length ≤ 1000) (hl : (bytesOf rs).length ≤ 1000000) :
    Calls Tryd.prog 42 #[.slice (some a) rs.length c] w fun e w' => ∃ A d, e = .returned (.slice A (bytesOf rs).length d) ∧ Src w' A (bvs (bytesOf rs)) ∧ (bytesOf rs).length ≤ d ∧ d ≤ 9223372036854775807 ∧ T8 w' A ∧ Keeps (fun _ => False) w w' := by
  obtain ⟨u0, hu0, hu1, hu2, hu3⟩ := info_parts info_u8t
  obtain ⟨n, hnn⟩ : ∃ n, rs.length = n := ⟨_, rfl⟩
  have HN := Lib.hid hnn
  rw [hnn] at hn ⊢
  have HR := Lib.hid hR
  have HU : Hid (Tryd.prog.info? 5 = some u0 ∧ u0.zero = some (.int .u8 0) ∧ u0.size = 1 ∧ u0.bytes = 1) := Lib.hid ⟨hu0, hu1, hu2, hu3⟩
  have HL := Lib.hid hl
  clear hR hu0 hu1 hu2 hu3 hl hnn
  go_enter Tryd.func42, Tryd.ntmps42
  go_wp2_with fail
  go_loopw [3, 11] (fun s v wr => ∃ i : Nat, i ≤ n ∧ v = .int .i64 i ∧ s = .int .i64 ((bytesOf (rs.take i)).length : Nat) ∧ w = wr) (fun _ v _ => n - (intOf v).toNat)
  case atStart => exact ⟨0, by omega, rfl, rfl, rfl⟩
  case round =>
    obtain ⟨i, hi, rfl, rfl, hw⟩ := hrel
    obtain rfl : w = wr := hw
    by_cases hlt : i < n
    · obtain ⟨r, hr⟩ : ∃ r, rs[i]? = some r := ⟨_, List.getElem?_eq_getElem (by rw [HN.out]; exact hlt)⟩
      obtain ⟨ad, ha, hc⟩ := HR.out.cell i r hr
      obtain rfl : a = ad := Option.some.inj ha
      have hb := bytesOf_take rs i r hr
      have h2 := bytesOf_le rs (i + 1)
      rw [hb, List.length_append] at h2
      have h3 := HL.out
      have hlen : (bytesOf (rs.take (i + 1))).length = (bytesOf (rs.take i)).length + r.2.2.length := by rw [hb, List.length_append]
      obtain ⟨A, cA, xs⟩ := r
      obtain ⟨m, hm⟩ : ∃ m, (bytesOf (rs.take i)).length = m := ⟨_, rfl⟩
      simp only at hc hlen h2
      rw [hm] at hlen h2 ⊢
      obtain ⟨k, hk⟩ : ∃ m, xs.length = m := ⟨_, rfl⟩
      rw [hk] at hc hlen h2
      have hs0 : (m : Int) + k ≤ 1000000 := by omega
      have HLEN := Lib.hid hlen
      clear hm hk hb h2 h3 ha hlen hr
      go_wp2_with fail
      go_roundw
      case rel => exact ⟨i + 1, by omega, by go_num, by rw [HLEN.out]; go_num, by trivial⟩
      case measure => simp [intOf]; omega
    · obtain rfl : i = n := by omega
      have ei : rs.take i = rs := List.take_of_length_le (by rw [HN.out]; exact Nat.le_refl _)
      rw [ei]
      have hg := grow_any (bytesOf rs).length HL.out w
      have HG := Lib.hid hg
      clear hg ei
      go_wp2_with fail
      refine HG.out.mono ?_
      rintro e w1 ⟨v0, rfl, ho, k1⟩
      have HO := Lib.hid ho
      have K1 := Lib.hid k1
      clear ho k1 HG
      go_wp2_with fail
      go_loopw [6, 27] (fun s v wr => ∃ j : Nat, j ≤ i ∧ v = .int .i64 j ∧ Hid (wr.ownsRow w.heap.size 5 1 s (bytesOf (rs.take j)).length (bvs (bytesOf (rs.take j)))) ∧ Hid (Keeps (fun k => w.heap.size ≤ k) w wr)) (fun _ v _ => i - (intOf v).toNat)
      case atStart => exact ⟨0, by omega, rfl, HO, Lib.hid (K1.out.mono (fun _ _ h => h.elim))⟩
      case round =>
        clear HO K1
        obtain ⟨j, hj, rfl, HO, HK⟩ := hrel
        by_cases hlt : j < i
        · obtain ⟨r, hr⟩ : ∃ r, rs[j]? = some r := ⟨_, List.getElem?_eq_getElem (by rw [HN.out]; exact hlt)⟩
          have hRw := HR.out.keeps HK.out (fun k hk h => by omega)
          obtain ⟨ad, ha, hc⟩ := hRw.cell j r hr
          obtain rfl : a = ad := Option.some.inj ha
          have hsrc := hRw.src r (List.mem_of_getElem? hr)
          have hb := bytesOf_take rs j r hr
          have h2 := bytesOf_le rs (j + 1)
          rw [hb, List.length_append] at h2
          have h3 := HL.out
          obtain ⟨A, cA, xs⟩ := r
          simp only at hc hsrc hb h2
          have hlen : (bytesOf (rs.take (j + 1))).length = (bytesOf (rs.take j)).length + xs.length := by rw [hb, List.length_append]
          have HB := Lib.hid hb
          have HC := Lib.hid hc
          have HSRC := Lib.hid hsrc
          have HLEN := Lib.hid hlen
          have H2 : Hid ((bytesOf (rs.take j)).length + xs.length ≤ 1000000) := Lib.hid (by omega)
          have hcc : wr.cell? (a.add j) = some (.slice A xs.length cA) := hc
          clear hb h2 h3 ha hlen hr hRw hc hsrc HC
          go_wp2_with (refine wpList_append_src wr (by rfl) (.tmp 31) (.tmp 32) 23 (by rfl) w.heap.size 5 u0 (.int .u8 0) 1 Tryd.underlying23 HU.out.1 HU.out.2.1 HU.out.2.2.1 HU.out.2.2.2 rfl _ _ _ (by rfl) HO.out A xs.length cA (bvs xs) (by rfl) (bvs_length _) HSRC.out (bvs_one _) (by have := H2.out; unfold maxLen; omega) (by have := H2.out; omega) (by have := HK.out.size; exact this) ?_; intro v3 w3 ho3 hg3 _; have HO3 := Lib.hid ho3; have HG3 := Lib.hid hg3; clear ho3 hg3)
          go_roundw
          case rel =>
            refine ⟨j + 1, by omega, by go_num, ?_, Lib.hid (HK.out.grown HG3.out (fun k hk e => (HO.out.lt k e).1))⟩
            rw [HLEN.out, HB.out, ← bvs_append]
            exact HO3
          case measure => simp [intOf]; omega
        · obtain rfl : j = i := by omega
          have ei : rs.take j = rs := List.take_of_length_le (by rw [HN.out]; exact Nat.le_refl _)
          rw [ei] at HO
          obtain ⟨A, d, rfl, h1, h2, h3⟩ := RowIn.of_own HO.out
          go_wp2_with fail
          go_ret
          exact ⟨A, d, rfl, h3.src, h1, by unfold maxLen at h2; omega, fun a e => by subst e; obtain ⟨cur, hcur, _⟩ := own_block HO.out a.block rfl; exact ⟨cur, _, hcur⟩, HK.out.mono (fun k hk h => by omega)⟩
end Go.Proofs.YtjblnjeloimbgaaDoor
