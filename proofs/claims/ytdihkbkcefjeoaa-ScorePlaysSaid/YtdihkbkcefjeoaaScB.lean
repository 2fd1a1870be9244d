/-
  All peers, rising: the library's sorted keys of the map.
-/
import Derived.Test.YtdihkbkcefjeoaaScA
import Derived.Test.YtdihkbkcefjeoaaScLy
namespace Go.Proofs.Ytdihkbkcefjeoaa
open Go.RowKit Go.BigFrame Go.Maps Go.Sort Go.Shelf
set_option linter.unusedVariables false
set_option linter.unusedSimpArgs false

theorem int_wf (x : Int) (h : -9223372036854775808 ≤ x ∧ x ≤ 9223372036854775807) : (Lit.int .i64 x).wf = true := by
  have h1 : IntKind.i64.min = -9223372036854775808 := by decide
  have h2 : IntKind.i64.max = 9223372036854775807 := by decide
  show (decide (IntKind.i64.min ≤ x) && decide (x ≤ IntKind.i64.max)) = true
  rw [h1, h2]
  simp
  exact h
theorem sortsLaid (m : Nat) : AnyZI.SortsIn Try.prog laidSorted_ren Fence.wide m :=
  ⟨fun blk off cap ss W hH hblk hsz => callsIn_wide.2 (AnyM.slices_Sort_int laidSort blk off cap ss W hH hblk hsz),
   fun p cap W => callsIn_wide.2 (AnyM.slices_Sort_int_none laidSort p cap W)⟩
/-- The numbers from 0 on, so many, as values. -/
def upto (n : Nat) : List Int := (List.range n).map fun (k : Nat) => (k : Int)
def nvs (l : List Nat) : List Value := l.map fun (k : Nat) => .int .i64 (k : Int)
theorem nvs_length (l : List Nat) : (nvs l).length = l.length := by simp [nvs]
theorem upto_sorted (n : Nat) : (upto n).mergeSort leI = upto n := by
  have tr : ∀ a b c : Int, leI a b = true → leI b c = true → leI a c = true := fun a b c h1 h2 => by simp only [leI, decide_eq_true_eq] at *; exact Int.le_trans h1 h2
  refine List.mergeSort_of_pairwise ?_
  unfold upto
  refine List.pairwise_map.2 ((List.pairwise_lt_range (n := n)).imp ?_)
  intro a b h
  simp only [leI, decide_eq_true_eq]
  omega
theorem upto_vals (n : Nat) : (upto n).map encZ = nvs (List.range n) := by
  unfold upto nvs
  rw [List.map_map]
  rfl
/-- How any entry's value reads: not at all. -/
def noR (_ : Value) : Option (DataW Unit × List MemPlace) := some (.nil, [])
theorem pent_mem : ∀ (ps : List (Int × Int)) (j : Nat) (x : MapEntry), x ∈ pent j ps → ∃ i, j ≤ i ∧ i < j + ps.length ∧ x.key = .int .i64 (i : Int) ∧ x.born = i
  | [], j, x, h => by cases h
  | p :: ps, j, x, h => by
    unfold pent at h
    rcases List.mem_cons.1 h with rfl | h
    · exact ⟨j, Nat.le_refl _, by simp, rfl, rfl⟩
    · obtain ⟨i, h1, h2, h3⟩ := pent_mem ps (j + 1) x h
      exact ⟨i, by omega, by rw [List.length_cons]; omega, h3⟩
theorem pent_born : ∀ (ps : List (Int × Int)) (j : Nat), (pent j ps).map (·.born) = List.range' j ps.length
  | [], j => rfl
  | p :: ps, j => by
    unfold pent
    rw [List.map_cons, pent_born ps (j + 1), List.length_cons, List.range'_succ]
theorem pent_keys : ∀ (ps : List (Int × Int)) (j : Nat), (pent j ps).Pairwise fun x y => x.key ≠ y.key
  | [], j => List.Pairwise.nil
  | p :: ps, j => by
    unfold pent
    refine List.Pairwise.cons (fun x hx => ?_) (pent_keys ps (j + 1))
    obtain ⟨i, h1, _, h3, _⟩ := pent_mem ps (j + 1) x hx
    rw [h3]
    intro e
    injection e with _ e
    omega
section
variable {w : World} {b : Nat} {ps : List (Int × Int)}
theorem pent_fit (hk : Try.prog.underlying 3 = some (.int .i64)) (hl : ps.length ≤ 64) : Go.WideElems.Fit Try.prog 3 noR (pent 0 ps).toArray ps.length := by
  refine ⟨?_, (MapKept.stamped_iff _ _).2 ⟨?_, ?_, ?_⟩, ?_⟩
  · show (pent 0 ps).toArray.size ≤ 9223372036854775807
    rw [List.size_toArray, pent_length]
    omega
  · intro x hx
    obtain ⟨i, _, h2, _, h4⟩ := pent_mem ps 0 x hx
    rw [h4]
    omega
  · show ((pent 0 ps).map (·.born)).Nodup
    rw [pent_born]
    exact List.nodup_range'
  · exact pent_keys ps 0
  · intro x hx
    obtain ⟨i, _, h2, h3, _⟩ := pent_mem ps 0 x hx
    refine ⟨(.int .i64 (i : Int), .nil), ?_⟩
    have hw : (Lit.int .i64 (i : Int)).wf = true := int_wf _ (by omega)
    unfold Go.WideElems.rd
    rw [h3, keyOf_int_mk hk hw]
    rfl
theorem rg_pent (hk : Try.prog.underlying 3 = some (.int .i64)) (x : MapEntry) (i : Nat) (h : x.key = .int .i64 (i : Int)) (hi : i ≤ 1000) : Go.WideElems.rg Try.prog 3 noR x = (.int .i64 (i : Int), .nil) := by
  unfold Go.WideElems.rg Go.WideElems.rd
  rw [h, keyOf_int_mk hk (int_wf _ (by omega))]
  rfl
theorem pent_ints (hk : Try.prog.underlying 3 = some (.int .i64)) : ∀ (ps : List (Int × Int)) (j : Nat), j + ps.length ≤ 1000 → ((pent j ps).map (Go.WideElems.rg Try.prog 3 noR)).map (fun p => Go.intOf p.1) = (List.range' j ps.length).map fun (k : Nat) => (k : Int)
  | [], j, h => rfl
  | p :: ps, j, h => by
    rw [List.length_cons] at h
    unfold pent
    rw [List.map_cons, List.map_cons, pent_ints hk ps (j + 1) (by omega), rg_pent hk _ j rfl (by omega), List.length_cons, List.range'_succ, List.map_cons]
    rfl
/-- The map as a datum. -/
noncomputable def pdat (ps : List (Int × Int)) : DataW Unit := .map (((pent 0 ps).toArray.toList.map (Go.WideElems.rg Try.prog 3 noR)).foldr DataW.insert [])
theorem pdat_owns (hk : Try.prog.underlying 3 = some (.int .i64)) (hl : ps.length ≤ 64) (h : PMap w b ps) : w.ownsMap Try.prog 3 noR b ps.length (pdat ps) :=
  ⟨_, _, h, pent_fit hk hl, by rw [List.size_toArray, pent_length]; exact Nat.le_refl _, rfl⟩
theorem pdat_keys (hk : Try.prog.underlying 3 = some (.int .i64)) (hl : ps.length ≤ 64) : (intKeys (pdat ps)).Perm (upto ps.length) := by
  have h : ((((pent 0 ps).toArray.toList.map (Go.WideElems.rg Try.prog 3 noR)).foldr DataW.insert []).map fun p => Go.intOf p.1).Perm (((pent 0 ps).toArray.toList.map (Go.WideElems.rg Try.prog 3 noR)).map fun p => Go.intOf p.1) := (Go.WideShapes.sorted_perm _).map _
  have e := pent_ints hk ps 0 (by omega)
  rw [show (pent 0 ps).toArray.toList = pent 0 ps from rfl, e, ← List.range_eq_range'] at h
  exact h
theorem pdat_size : Maps.size (pdat ps) = ps.length := by
  show (((pent 0 ps).toArray.toList.map (Go.WideElems.rg Try.prog 3 noR)).foldr DataW.insert []).length = ps.length
  rw [length_sorted, List.length_map]
  exact pent_length ps 0
end
set_option maxHeartbeats 1000000 in
/-- maps.Keys, and what slices.Sorted makes of it: the numbers of all peers, rising. -/
theorem keys_calls (mb : Option Nat) (W : World) : Calls Try.prog 26 #[.map mb] W fun e w' => e = .returned (.func (.func 29) #[] #[.pointer (some ⟨W.heap.size, 0, none⟩)]) ∧ w' = W.alloc (.cells #[.map mb] 59) :=
  (callsIn_wide (n := 5)).1 (AnyZI.keys_in laidKeys Fence.wide 5 trivial rfl mb W)
set_option maxHeartbeats 1000000 in
theorem sorted_calls (w : World) (b : Nat) (ps : List (Int × Int)) (hl : ps.length ≤ 64) (h : PMap w b ps) : Calls Try.prog 25 #[.func (.func 29) #[] #[.pointer (some ⟨w.heap.size, 0, none⟩)]] (w.alloc (.cells #[.map (some b)] 59)) fun e w' =>
    ∃ A c, e = .returned (.slice A ps.length c) ∧ w'.ownsRow w.heap.size 3 1 (.slice A ps.length c) ps.length (nvs (List.range ps.length)) ∧ Keeps (fun _ => False) w w' := by
  have hk : Try.prog.underlying 3 = some (.int .i64) := Try.underlying3
  have hm : PMap (w.alloc (.cells #[.map (some b)] 59)) b ps := h.keeps ((Keeps.refl (fun _ => False) w).alloc _) id
  have hseq : SeqGives Fence.wide 2 Try.prog 29 #[.pointer (some ⟨w.heap.size, 0, none⟩)] encZ (fun ss => ss.Perm (intKeys (pdat ps))) (Maps.size (pdat ps)) (w.alloc (.cells #[.map (some b)] 59)) :=
    AnyZI.keys_gives (ρ := laidKeys_ren) { laidKeys with } Fence.wide _ trivial rfl (by omega) w.heap.size b ps.length (pdat ps) _ (by simp) (by simp) (pdat_owns hk hl hm)
  have cS := AnyZI.sorted_in laidSorted Fence.wide 5 trivial trivial trivial trivial rfl (by omega) (sortsLaid _) (enters_of Try.func28 (by kernel_rfl) rfl) 29 #[.pointer (some ⟨w.heap.size, 0, none⟩)] trivial (enters_of Try.func29 (by kernel_rfl) rfl) _ _ (by rw [pdat_size]; show ps.length ≤ 9223372036854775807; omega) (by rw [pdat_size]; omega) _ hseq
  change CallsIn _ _ Try.prog 25 _ _ _ at cS
  refine (callsIn_wide.1 cS).mono ?_
  rintro e w' ⟨v, ss, rfl, hS, hrow, hnil, hb⟩
  have hp : ss.Perm (upto ps.length) := hS.trans (pdat_keys hk hl)
  have hlen : ss.length = ps.length := by rw [hp.length_eq]; simp [upto]
  have e2 : ss.mergeSort (fun x y => decide (x ≤ y)) = upto ps.length := (mergeSort_of_perm_i hp).trans (upto_sorted _)
  rw [e2, upto_vals, hlen] at hrow
  obtain ⟨A, c, rfl⟩ := own_slice hrow
  exact ⟨A, c, rfl, own_base hrow (by simp), Keeps.of_below (((Below.refl _ w).alloc (Nat.le_refl _) _).trans (hb.mono (by simp)))⟩
set_option maxHeartbeats 1000000 in
theorem all_any (w : World) (g b : Nat) (s : Sc.Tb) (h : TabAt w g b s) : Calls Try.prog 24 #[.pointer (some ⟨g, 0, none⟩)] w fun e w' =>
    ∃ A c, e = .returned (.slice A s.ps.length c) ∧ w'.ownsRow w.heap.size 3 1 (.slice A s.ps.length c) s.ps.length (nvs (List.range s.ps.length)) ∧ Keeps (fun _ => False) w w' := by
  have HS := Lib.hid (sorted_calls w b s.ps h.ok.many.2 h.map)
  have HK := Lib.hid (keys_calls (some b) w)
  have c0 : w.cell? ⟨g, 0, none⟩ = some (.map (some b)) := h.row.cell 0
  obtain ⟨n, hn⟩ : ∃ n, s.ps.length = n := ⟨_, rfl⟩
  rw [hn] at HS ⊢
  clear h
  go_enter Try.func24, Try.ntmps24
  go_wp2_with fail
  refine HK.out.mono ?_
  rintro e w1 ⟨rfl, rfl⟩
  go_wp2_with fail
  refine HS.out.mono ?_
  rintro e w2 ⟨A, c, rfl, hrow, hk⟩
  go_wp2
  go_ret
  exact ⟨A, c, rfl, hrow, hk⟩
theorem all_none (w : World) : Calls Try.prog 24 #[.pointer none] w fun e w' => e = .returned (.slice none 0 0) ∧ w' = w := by
  go_enter Try.func24, Try.ntmps24
  go_wp2
  go_ret
  exact ⟨rfl, rfl⟩
end Go.Proofs.Ytdihkbkcefjeoaa
