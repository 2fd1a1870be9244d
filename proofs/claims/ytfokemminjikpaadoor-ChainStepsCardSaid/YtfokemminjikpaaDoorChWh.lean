/-
  The law ChainWhole walked: the proof from the first entry on is the path to it.
-/
import Derived.Test.YtfokemminjikpaaDoorChW
import Derived.Test.YtfokemminjikpaaDoorLawC
namespace Go.Proofs.YtfokemminjikpaaDoor
open Go.RowKit Go.BigFrame
set_option linter.unusedVariables false

theorem own_cap {w : World} {base size n : Nat} {e : TypeId} {A : Option Addr} {l c : Nat} {xs : List Value} (h : w.ownsRow base e size (.slice A l c) n xs) : l = n ∧ n ≤ c ∧ c ≤ 9223372036854775807 := by
  rcases h.2 with ⟨h, hs0⟩ | ⟨g, cap, cur, h, _, _, h1, h2, _⟩
  · injection h with _ h2 h3; subst h2; subst h3; exact ⟨hs0.symm, by omega, by omega⟩
  · injection h with _ h3 h4; subst h3; subst h4; unfold maxLen at h2; exact ⟨rfl, h1, h2⟩
set_option maxRecDepth 100000 in
set_option maxHeartbeats 2000000 in
theorem whole_in (a : Addr) (c : Nat) (rs : List RowOf) (W : World) (hT : Tabs W) (hR : RowsAt W (some a) rs) (h1 : 1 ≤ rs.length) (h20 : rs.length ≤ 20) (hc : rs.length ≤ c) (hmax : c ≤ 9223372036854775807) (hlen : ∀ r ∈ rs, r.2.2.length ≤ 1000)
    (HFEW : Hid (∀ V, Keeps (fun _ => False) W V → Calls Tryd.prog 36 #[.slice (some a) rs.length c] V fun e w' => e = .returned (.bool true) ∧ w' = V)) :
    Calls Tryd.prog 12 #[.slice (some a) rs.length c] W fun e W' => e = .returned (.bool true) ∧ Below W.heap.size W W' := by
  have HAW := Lib.hid (awake4_any W hT)
  have hproof := fun V (hk : Keeps (fun _ => False) W V) => proof_in a c rs 1 V (hT.keeps hk id id) (hR.keeps hk (fun _ _ => id)) (by omega) h1 hc hmax hlen (by omega)
  have hpath := fun V (hk : Keeps (fun _ => False) W V) => path_in a c rs 0 V (hT.keeps hk id id) (hR.keeps hk (fun _ _ => id)) (by omega) hc hmax hlen (by omega)
  have hpo := Tr.prf_one (ents rs) (by rw [ents_length]; exact h1)
  have hpl := Tr.prf_long (ents rs) 1 true (by omega) (by rw [ents_length]; exact h1) (by rw [ents_length]; omega)
  have hpf := Tr.prf_few (ents rs) 1 true (by omega) (by rw [ents_length]; exact h1)
  have hpall : ∀ x ∈ Tr.prf (ents rs) 1 true, x.length = 32 := fun x hx => Tr.prf_all _ _ _ _ x hx
  rw [ents_length] at hpl hpf
  have hlong := fun V => long_in 1 rs.length V (by omega) h1 (by omega)
  rw [← hpo] at hpath
  rw [← hpl] at hlong
  obtain ⟨ps, hps⟩ : ∃ ps, Tr.prf (ents rs) 1 true = ps := ⟨_, rfl⟩
  rw [hps] at hproof hpath hlong hpf hpall
  obtain ⟨n, hn⟩ : ∃ n, rs.length = n := ⟨_, rfl⟩
  rw [hn] at hproof hpath hlong hpf HFEW h1 h20 hc ⊢
  obtain ⟨l, hl⟩ : ∃ l, ps.length = l := ⟨_, rfl⟩
  rw [hl] at hproof hpath hlong hpf
  have hn20 : (n : Int) ≤ 20 := by omega
  have hn1 : ((n : Int) == 0) = false := by rw [beq_eq_false_iff_ne]; omega
  have HPR := Lib.hid hproof
  have HPA := Lib.hid hpath
  have HLO := Lib.hid hlong
  have HALL := Lib.hid hpall
  have HLL := Lib.hid hl
  clear hproof hpath hlong hpall hl hpo hpl hps hn hT hR hlen h1 hc
  go_enter Tryd.func12, Tryd.ntmps12
  go_wp2_with fail
  refine HAW.out.mono ?_
  rintro e1 w1 ⟨rfl, k1⟩
  go_wp2_with fail
  refine (HFEW.out w1 k1).mono ?_
  rintro e2 w2 ⟨rfl, rfl⟩
  clear HAW HFEW
  go_wp2_with fail
  refine (HPR.out w2 k1).mono ?_
  rintro e3 w3 ⟨v, rfl, ho3, k3⟩
  obtain ⟨A3, c3, rfl⟩ := own_slice ho3
  obtain ⟨_, cc1, cc2⟩ := own_cap ho3
  have P3 := Lib.hid (show PathAt w3 A3 ps from PathAt.of_own ho3 HALL.out)
  have K3 := Lib.hid (k1.trans k3)
  clear HPR k1 k3 ho3
  go_wp2_with fail
  refine (HPA.out w3 K3.out).mono ?_
  rintro e4 w4 ⟨v, rfl, ho4, k4⟩
  obtain ⟨A4, c4, rfl⟩ := own_slice ho4
  have P4 := Lib.hid (show PathAt w4 A4 ps from PathAt.of_own ho4 HALL.out)
  have P34 := Lib.hid (P3.out.keeps k4 (fun _ _ => id))
  have K4 := Lib.hid (K3.out.trans k4)
  have hsame := same4_eq A3 A4 c3 c4 ps w4 P34.out P4.out (by rw [HLL.out]; omega)
  rw [HLL.out] at hsame
  have HSM := Lib.hid hsame
  have hll : ((l : Int) == (l : Int)) = true := by simp
  clear HPA k4 ho4 hsame P3 P4 P34 K3
  go_wp2_with fail
  refine HSM.out.mono ?_
  rintro e5 w5 ⟨rfl, k5⟩
  have K5 := Lib.hid (K4.out.trans k5)
  clear HSM k5 K4
  go_wp2_with fail
  refine (HLO.out w5).mono ?_
  rintro e6 w6 ⟨rfl, rfl⟩
  go_wp2
  go_ret
  exact ⟨rfl, keeps_below3 K5.out⟩
set_option maxRecDepth 100000 in
set_option maxHeartbeats 1000000 in
theorem whole_out (A : Option Addr) (m c : Nat) (q : Bool) (W : World) (hq : q = true → m = 0) (hT : Tabs W) (HFEW : Hid (∀ V, Keeps (fun _ => False) W V → Calls Tryd.prog 36 #[.slice A m c] V fun e w' => e = .returned (.bool q) ∧ w' = V)) :
    Calls Tryd.prog 12 #[.slice A m c] W fun e W' => e = .returned (.bool true) ∧ Below W.heap.size W W' := by
  have HAW := Lib.hid (awake4_any W hT)
  clear hT
  cases q
  · clear hq
    go_enter Tryd.func12, Tryd.ntmps12
    go_wp2_with fail
    refine HAW.out.mono ?_
    rintro e1 w1 ⟨rfl, k1⟩
    go_wp2_with fail
    refine (HFEW.out w1 k1).mono ?_
    rintro e2 w2 ⟨rfl, rfl⟩
    go_wp2
    go_ret
    exact ⟨rfl, keeps_below3 k1⟩
  · obtain rfl := hq rfl
    clear hq
    go_enter Tryd.func12, Tryd.ntmps12
    go_wp2_with fail
    refine HAW.out.mono ?_
    rintro e1 w1 ⟨rfl, k1⟩
    go_wp2_with fail
    refine (HFEW.out w1 k1).mono ?_
    rintro e2 w2 ⟨rfl, rfl⟩
    go_wp2
    go_ret
    exact ⟨rfl, keeps_below3 k1⟩
theorem whole_walk (A : Option Addr) (len c : Nat) (rs : List RowOf) (W : World) (hT : Tabs W) (h0 : IsRows W A len c rs) :
    Calls Tryd.prog 12 #[.slice A len c] W fun e W' => e = .returned (.bool true) ∧ Below W.heap.size W W' := by
  obtain ⟨rfl, hc, hmax, hR⟩ := h0
  have hfew : ∀ V, Keeps (fun _ => False) W V → Calls Tryd.prog 36 #[.slice A rs.length c] V fun e w' => e = .returned (.bool (fewB rs)) ∧ w' = V := fun V hk => few4_any A c rs V (hR.keeps hk (fun _ _ => id)) (by omega)
  cases hq : fewB rs with
  | false => rw [hq] at hfew; exact whole_out A _ c false W (fun h => by cases h) hT (Lib.hid hfew)
  | true =>
    rw [hq] at hfew
    obtain ⟨h20, hlen⟩ := few_short hq
    rcases Nat.lt_or_ge rs.length 1 with h3 | h3
    · exact whole_out A _ c true W (fun _ => by omega) hT (Lib.hid hfew)
    · obtain ⟨a, rfl, _⟩ := hR.cell 0 rs[0] (by simp)
      exact whole_in a c rs W hT hR h3 h20 hc hmax hlen (Lib.hid hfew)
end Go.Proofs.YtfokemminjikpaaDoor
