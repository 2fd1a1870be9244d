/-
  The law TreeLong walked: how many hashes paths have.
-/
import Derived.Test.YtfdhnlpialcklaaDoorTrL
namespace Go.Proofs.YtfdhnlpialcklaaDoor
open Go.RowKit Go.BigFrame
set_option linter.unusedVariables false

/-- How often a number is halved. -/
def halves : Nat → Nat → Nat
  | 0, _ => 0
  | f + 1, x => if x = 0 then 0 else halves f (x / 2) + 1
/-- What the law asks of a place, as numbers: all of them at once. -/
theorem long_all : ∀ n : Fin 21, ∀ i : Fin 21, i.val < n.val → Tr.steps n.val i.val ≤ halves 5 (n.val - 1) ∧ (bits .and .i64 (n.val : Int) ((n.val : Int) - 1) = 0 → Tr.steps n.val i.val = halves 5 (n.val - 1)) ∧ (0 < Tr.steps n.val i.val ↔ 1 < n.val) ∧ bits .and .i64 (n.val : Int) ((n.val : Int) - 1) ≤ 32 ∧ 0 ≤ bits .and .i64 (n.val : Int) ((n.val : Int) - 1) := by decide +kernel
theorem halves_step (f x : Nat) (hx : x < 2 ^ f) (h : 0 < x) : halves f x = halves f (x / 2) + 1 := by
  have fuel : ∀ f x g, x < 2 ^ f → f ≤ g → halves g x = halves f x := by
    intro f
    induction f with
    | zero =>
      intro x g hx hg
      have : x = 0 := by simpa using hx
      subst this
      cases g <;> simp [halves]
    | succ f ih =>
      intro x g hx hg
      obtain ⟨g, rfl⟩ : ∃ g', g = g' + 1 := ⟨g - 1, by omega⟩
      unfold halves
      split
      · rfl
      · rw [ih (x / 2) g (by rw [Nat.pow_succ] at hx; omega) (by omega)]
  cases f with
  | zero => simp at hx; omega
  | succ f =>
    have e := fuel f (x / 2) (f + 1) (by rw [Nat.pow_succ] at hx; omega) (by omega)
    rw [e]
    show (if x = 0 then 0 else _) = _
    rw [if_neg (by omega)]
set_option maxRecDepth 100000 in
set_option maxHeartbeats 2000000 in
theorem long_in (a : Addr) (c : Nat) (rs : List RowOf) (x : Int) (W : World) (hT : Tabs W) (hR : RowsAt W (some a) rs) (h1 : 1 ≤ rs.length) (h20 : rs.length ≤ 20) (hc : rs.length ≤ c) (hmax : c ≤ 9223372036854775807) (hlen : ∀ r ∈ rs, r.2.2.length ≤ 1000) (hx0 : 0 ≤ x) (hx1 : x ≤ 255)
    (HFEW : Hid (∀ V, Keeps (fun _ => False) W V → Calls Tryd.prog 21 #[.slice (some a) rs.length c] V fun e w' => e = .returned (.bool true) ∧ w' = V)) :
    Calls Tryd.prog 10 #[.slice (some a) rs.length c, .int .u8 x] W fun e W' => e = .returned (.bool true) ∧ Below W.heap.size W W' := by
  have HAW := Lib.hid (awake3_any W hT)
  obtain ⟨n, hn⟩ : ∃ n, rs.length = n := ⟨_, rfl⟩
  obtain ⟨i, hi⟩ : ∃ i : Nat, x % (n : Int) = i := Int.eq_ofNat_of_zero_le (Int.emod_nonneg _ (by omega))
  have hin : i < n := by have := Int.emod_lt_of_pos x (show (0 : Int) < n by omega); omega
  have ht : x.tmod (n : Int) = (i : Int) := by rw [Int.tmod_eq_emod_of_nonneg hx0, hi]
  obtain ⟨q1, q2, q3, q4, q5⟩ := long_all ⟨n, by omega⟩ ⟨i, by omega⟩ hin
  simp only at q1 q2 q3 q4 q5
  have hst := Tr.path_steps (ents rs) i (by rw [ents_length]; omega) (by rw [ents_length]; omega)
  rw [ents_length, hn] at hst
  have hpath := fun V (hk : Keeps (fun _ => False) W V) => path_in a c rs i V (hT.keeps hk id id) (hR.keeps hk (fun _ _ => id)) (by omega) hc hmax hlen (by omega)
  obtain ⟨ps, hps⟩ : ∃ ps, Tr.path (ents rs) i = ps := ⟨_, rfl⟩
  rw [hps] at hst hpath
  rw [hn] at hpath HFEW hc ⊢
  obtain ⟨s, hs⟩ : ∃ s, Tr.steps n i = s := ⟨_, rfl⟩
  rw [hs] at q1 q2 q3 hst
  obtain ⟨H, hH⟩ : ∃ H, halves 5 (n - 1) = H := ⟨_, rfl⟩
  rw [hH] at q1 q2
  obtain ⟨P, hP⟩ : ∃ P, bits .and .i64 (n : Int) ((n : Int) - 1) = P := ⟨_, rfl⟩
  rw [hP] at q2 q4 q5
  rw [hst] at hpath
  have HPATH := Lib.hid hpath
  have HH := Lib.hid hH
  have Q2 := Lib.hid q2
  have Q3 := Lib.hid q3
  have Q1 := Lib.hid q1
  have hn20 : (n : Int) ≤ 20 := by omega
  have hn1 : (1 : Int) ≤ n := by omega
  have hs64 : s ≤ 64 := by rw [← hs]; exact Tr.steps_le n i
  have o1 := path_out (some a) n c (n : Int)
  have o2 := path_out (some a) n c (-1)
  have O1 := Lib.hid (fun V => o1 V (.inr (by omega)))
  have O2 := Lib.hid (fun V => o2 V (.inl (by omega)))
  clear hpath hH q1 q2 q3 hR hT hlen hst hps hs o1 o2 hn h1 h20 hi
  go_enter Tryd.func10, Tryd.ntmps10
  go_wp2_with fail
  refine HAW.out.mono ?_
  rintro e1 w1 ⟨rfl, k1⟩
  go_wp2_with fail
  refine (HFEW.out w1 k1).mono ?_
  rintro e2 w2 ⟨rfl, rfl⟩
  clear HAW HFEW
  go_wp2_with fail
  go_loopw [7, 8] (fun bv xv wr => ∃ b y : Nat, bv = .int .i64 b ∧ xv = .int .i64 y ∧ y ≤ 19 ∧ b ≤ 5 ∧ Hid (b + halves 5 y = H) ∧ wr = w2) (fun _ xv _ => (intOf xv).toNat)
  case atStart => exact ⟨0, n - 1, rfl, by go_num, by omega, by omega, Lib.hid (by rw [HH.out]; omega), rfl⟩
  case round =>
    obtain ⟨b, y, rfl, rfl, hy, hb, hbh, rfl⟩ := hrel
    by_cases hpos : 0 < y
    · have hpos' : (0 : Int) < y := by omega
      have hst := halves_step 5 y (by omega) hpos
      obtain ⟨y2, hy2⟩ : ∃ y2, y / 2 = y2 := ⟨_, rfl⟩
      rw [hy2] at hst
      have hd : (y : Int).tdiv 2 = (y2 : Int) := by rw [Int.tdiv_eq_ediv_of_nonneg (by omega)]; omega
      have hd2 : (y : Int) / 2 = (y2 : Int) := by omega
      have hyl : y2 < y := by omega
      have hle : b + 1 ≤ 5 := by
        have h1 := hbh.out
        have : ∀ n : Fin 20, halves 5 n.val ≤ 5 := by decide
        have h2 := HH.out
        have h3 : halves 5 (n - 1) ≤ 5 := this ⟨n - 1, by omega⟩
        omega
      have HST : Hid (b + 1 + halves 5 y2 = H) := Lib.hid (by have := hbh.out; omega)
      clear hst hbh hy2
      go_wp2
      go_roundw
      case rel => exact ⟨b + 1, y2, by go_num, by go_num, by omega, hle, HST, by first | rfl | trivial⟩
      case measure => simp [intOf]; omega
    · obtain rfl : y = 0 := by omega
      have hbH : b = H := by have := hbh.out; unfold halves at this; simpa using this
      subst hbH
      clear hbh hpos
      go_wp2_with fail
      refine (HPATH.out wr k1).mono ?_
      rintro e5 w5 ⟨v, rfl, ho5, k5⟩
      obtain ⟨A5, c5, rfl⟩ := own_slice ho5
      have K5 := Lib.hid (k1.trans k5)
      clear HPATH ho5 k5 k1
      go_wp2_with fail
      refine (O1.out w5).mono ?_
      rintro e6 w6 ⟨rfl, rfl⟩
      go_wp2_with fail
      refine (O2.out w6).mono ?_
      rintro e7 w7 ⟨rfl, rfl⟩
      clear O1 O2
      have s1 := Q1.out
      have s1' : (s : Int) ≤ b := by omega
      by_cases hP0 : P = 0
      · obtain rfl : s = b := Q2.out hP0
        subst hP0
        by_cases hn2 : 1 < n
        · have hs0 := Q3.out.2 hn2
          have hs0' : (0 : Int) < s := by omega
          have hn2' : (1 : Int) < n := by omega
          clear Q1 Q2 Q3 hn2 HH
          go_wp2
          go_ret
          exact ⟨rfl, keeps_below3 K5.out⟩
        · obtain rfl : n = 1 := by omega
          obtain rfl : s = 0 := by
            rcases Nat.eq_zero_or_pos s with h | h
            · exact h
            · have := Q3.out.1 h; omega
          clear Q1 Q2 Q3 HH
          go_wp2
          go_ret
          exact ⟨rfl, keeps_below3 K5.out⟩
      · have hPn : (P == 0) = false := by simpa using hP0
        by_cases hn2 : 1 < n
        · have hs0 := Q3.out.2 hn2
          have hs0' : (0 : Int) < s := by omega
          have hn2' : (1 : Int) < n := by omega
          clear Q1 Q2 Q3 hn2 HH
          go_wp2
          go_ret
          exact ⟨rfl, keeps_below3 K5.out⟩
        · obtain rfl : n = 1 := by omega
          exact absurd (hP.symm.trans (by decide)) hP0
set_option maxRecDepth 100000 in
set_option maxHeartbeats 1000000 in
theorem long_long (A : Option Addr) (c : Nat) (x : Int) (W : World) (m : Nat) (HAW : Hid (Calls Tryd.prog 20 #[] W fun e w' => e = .returned (.bool true) ∧ Keeps (fun _ => False) W w')) (HFEW : Hid (∀ V, Keeps (fun _ => False) W V → Calls Tryd.prog 21 #[.slice A m c] V fun e w' => e = .returned (.bool false) ∧ w' = V)) :
    Calls Tryd.prog 10 #[.slice A m c, .int .u8 x] W fun e W' => e = .returned (.bool true) ∧ Below W.heap.size W W' := by
  go_enter Tryd.func10, Tryd.ntmps10
  go_wp2_with fail
  refine HAW.out.mono ?_
  rintro e1 w1 ⟨rfl, k1⟩
  go_wp2_with fail
  refine (HFEW.out w1 k1).mono ?_
  rintro e2 w2 ⟨rfl, rfl⟩
  go_wp2
  go_ret
  exact ⟨rfl, keeps_below3 k1⟩
set_option maxRecDepth 100000 in
set_option maxHeartbeats 1000000 in
theorem long_zero (A : Option Addr) (c : Nat) (x : Int) (W : World) (HAW : Hid (Calls Tryd.prog 20 #[] W fun e w' => e = .returned (.bool true) ∧ Keeps (fun _ => False) W w')) (HFEW : Hid (∀ V, Keeps (fun _ => False) W V → Calls Tryd.prog 21 #[.slice A 0 c] V fun e w' => e = .returned (.bool true) ∧ w' = V)) :
    Calls Tryd.prog 10 #[.slice A 0 c, .int .u8 x] W fun e W' => e = .returned (.bool true) ∧ Below W.heap.size W W' := by
  go_enter Tryd.func10, Tryd.ntmps10
  go_wp2_with fail
  refine HAW.out.mono ?_
  rintro e1 w1 ⟨rfl, k1⟩
  go_wp2_with fail
  refine (HFEW.out w1 k1).mono ?_
  rintro e2 w2 ⟨rfl, rfl⟩
  go_wp2
  go_ret
  exact ⟨rfl, keeps_below3 k1⟩
theorem long_walk (A : Option Addr) (len c : Nat) (rs : List RowOf) (x : Int) (W : World) (hT : Tabs W) (h0 : IsRows W A len c rs) (h1 : (Lit.int .u8 x).wf = true) :
    Calls Tryd.prog 10 #[.slice A len c, .int .u8 x] W fun e W' => e = .returned (.bool true) ∧ Below W.heap.size W W' := by
  have bn := bounds_u8 h1
  obtain ⟨rfl, hc, hmax, hR⟩ := h0
  have HAW := Lib.hid (awake3_any W hT)
  have hfew : ∀ V, Keeps (fun _ => False) W V → Calls Tryd.prog 21 #[.slice A rs.length c] V fun e w' => e = .returned (.bool (fewB rs)) ∧ w' = V := fun V hk => few_any A c rs V (hR.keeps hk (fun _ _ => id)) (by omega)
  cases hq : fewB rs with
  | false => rw [hq] at hfew; exact long_long A c _ W _ HAW (Lib.hid hfew)
  | true =>
    rw [hq] at hfew
    obtain ⟨h20, hlen⟩ := few_short hq
    rcases Nat.lt_or_ge rs.length 1 with h3 | h3
    · obtain rfl : rs = [] := List.eq_nil_of_length_eq_zero (by omega)
      exact long_zero A c x W HAW (Lib.hid hfew)
    · obtain ⟨a, rfl, _⟩ := hR.cell 0 rs[0] (by simp)
      exact long_in a c rs x W hT hR h3 h20 hc hmax hlen bn.1 bn.2 (Lib.hid hfew)
end Go.Proofs.YtfdhnlpialcklaaDoor
