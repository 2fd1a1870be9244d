/-
  Wants, sorted: the library's slices.SortFunc with the program's order.
-/
import Derived.Test.YthnpgiagajfaiaaFcB
import Derived.Test.YthnpgiagajfaiaaFcLy
import Derived.Shelf.SlSortCmp.NoneTotal
namespace Go.Proofs.Ythnpgiagajfaiaa
open Go.RowKit Go.BigFrame Go.Sort Go.Shelf
set_option linter.unusedVariables false
set_option linter.unusedSimpArgs false

abbrev WnK := { k : Ft.Wn // Ft.Wn.Ok k }
instance : Inhabited WnK := ⟨⟨((0, List.replicate 32 0), (0, List.replicate 32 0)), ⟨by decide, by decide⟩, ⟨by decide, by decide⟩⟩⟩
def encW (x : WnK) : List Value := wcs x.1
def cfW (x y : WnK) : Int := Ft.wcmp x.1 y.1
theorem encW_length (x : WnK) : (encW x).length = 66 := wcs_length x.2
theorem encW_one (x : WnK) : ∀ v ∈ encW x, v.oneCell' = true := wcs_one x.1
theorem ltOf_W (x y : WnK) : ltOf cfW x y = Ft.wless x.1 y.1 := Ft.wcmp_neg _ _
theorem wless_ntrans {x y z : Ft.Wn} (h1 : Ft.wless x y = false) (h2 : Ft.wless y z = false) : Ft.wless x z = false := by
  rcases Bool.eq_false_or_eq_true (Ft.wless y x) with h3 | h3
  · rcases Bool.eq_false_or_eq_true (Ft.wless z y) with h4 | h4
    · exact Ft.wless_asymm (Ft.wless_trans h4 h3)
    · rw [← Ft.wless_tri h2 h4]; exact h1
  · rw [Ft.wless_tri h1 h3]; exact h2
theorem swoW : SWO (ltOf cfW) where
  irrefl x := by rw [ltOf_W]; exact Ft.wless_irrefl _
  trans x y z h1 h2 := by rw [ltOf_W] at *; exact Ft.wless_trans h1 h2
  ntrans x y z h1 h2 := by rw [ltOf_W] at *; exact wless_ntrans h1 h2
theorem totW (x y : WnK) (h1 : ltOf cfW x y = false) (h2 : ltOf cfW y x = false) : x = y := by
  rw [ltOf_W] at *
  exact Subtype.ext (Ft.wless_tri h1 h2)
theorem cmpLaysW (blk off size : Nat) (w : World) : CmpLays Try.prog 29 #[] encW 66 cfW blk off size w :=
  fun m os dk hs x y => (wcmp_any x.1 y.1 x.2 y.2 _).mono (fun e w' h => ⟨h.1, h.2.eq⟩)
def srt (ks : List Ft.Wn) : List Ft.Wn := ks.mergeSort (fun x y => !Ft.wless y x)
theorem srt_length (ks : List Ft.Wn) : (srt ks).length = ks.length := List.length_mergeSort _
theorem srt_mem {ks : List Ft.Wn} {k : Ft.Wn} : k ∈ srt ks ↔ k ∈ ks := List.mem_mergeSort
/-- Wants that are in order already: whatever their order was. -/
theorem srt_eq {ks ls : List Ft.Wn} (hp : ks.Perm ls) (hs : ls.Pairwise (fun a b => Ft.wless a b = true)) : srt ks = ls := by
  have h1 : (srt ks).Pairwise (fun a b => (!Ft.wless b a) = true) := List.pairwise_mergeSort (fun a b c h1 h2 => by
    simp only [Bool.not_eq_true'] at *
    exact wless_ntrans h2 h1) (fun a b => by
    rcases Bool.eq_false_or_eq_true (Ft.wless a b) with h | h
    · rw [Ft.wless_asymm h]; rfl
    · rw [h]; simp) ks
  have h2 : ls.Pairwise (fun a b => (!Ft.wless b a) = true) := hs.imp (fun h => by rw [Ft.wless_asymm h]; rfl)
  exact List.Perm.eq_of_pairwise (fun a b _ _ h3 h4 => Ft.wless_tri (by simpa using h4) (by simpa using h3)) h1 h2 ((List.mergeSort_perm _ _).trans hp)
/-- A row of wants, flat. -/
theorem flat_W (d : Array WnK) : (flatK encW 66 d).toList = wfl (d.toList.map (·.1)) := by
  have hok : ∀ q ∈ d.toList.map (·.1), Ft.Wn.Ok q := fun q hq => by obtain ⟨x, _, rfl⟩ := List.mem_map.1 hq; exact x.2
  have hl : (wfl (d.toList.map (·.1))).length = d.size * 66 := by rw [wfl_length _ hok]; simp
  apply List.ext_getElem?
  intro t
  by_cases ht : t < d.size * 66
  · have hi : t / 66 < d.size := by omega
    have h1 : (flatK encW 66 d).toList[t]? = some ((encW d[t / 66]!)[t % 66]!) := by
      rw [Array.getElem?_toList, Array.getElem?_eq_getElem (by rw [size_flatK]; exact ht), ← getElem!_pos (flatK encW 66 d) t (by rw [size_flatK]; exact ht), get_flatK _ _ _ _ ht]
    rw [h1]
    have hlt : t % 66 < (encW d[t / 66]!).length := by rw [encW_length]; omega
    have h2 := wfl_at (d.toList.map (·.1)) hok (t / 66) (d[t / 66]!).1 (by rw [List.getElem?_map, Array.getElem?_toList, Array.getElem?_eq_getElem hi, getElem!_pos d _ hi]; rfl) (t % 66) _ (List.getElem?_eq_getElem hlt)
    rw [show t / 66 * 66 + t % 66 = t by omega] at h2
    rw [h2, getElem!_pos (encW d[t / 66]!) (t % 66) hlt]
  · rw [List.getElem?_eq_none (by rw [Array.length_toList, size_flatK]; omega), List.getElem?_eq_none (by omega)]
theorem take_putW (cur : Array Value) (fl : Array Value) (h : fl.size ≤ cur.size) : (putCells id 0 fl cur).toList.take fl.size = fl.toList := by
  apply List.ext_getElem?
  intro j
  by_cases hj : j < fl.size
  · rw [List.getElem?_take_of_lt hj, Array.getElem?_toList]
    simp [putCells, hj, show j < cur.size by omega]
  · rw [List.getElem?_take_eq_none (by omega), List.getElem?_eq_none (by simp; omega)]
theorem sortf_some (w : World) (g n c B : Nat) (ks : List Ft.Wn) (hok : ∀ k ∈ ks, Ft.Wn.Ok k) (h : w.ownsRow B 41 66 (.slice (some ⟨g, 0, none⟩) n c) n (wfl ks)) (hn : n ≤ 100000) :
    Calls Try.prog 34 #[.slice (some ⟨g, 0, none⟩) n c, .func (.func 29) #[] #[]] w fun e w' =>
      e = .returned (.tuple #[]) ∧ w'.ownsRow B 41 66 (.slice (some ⟨g, 0, none⟩) n c) n (wfl (srt ks)) ∧ Keeps (fun k => k = g) w w' := by
  obtain ⟨d, hd⟩ : ∃ d : Array WnK, d = (ks.attachWith Ft.Wn.Ok hok).toArray := ⟨_, rfl⟩
  have hdk : d.toList.map (·.1) = ks := by rw [hd]; simp; exact List.attach_map_subtype_val ks
  have hll := h.1
  rw [wfl_length ks hok] at hll
  have hkn : ks.length = n := by omega
  have hdn : d.size = n := by rw [← hkn, ← hdk]; simp
  have hfl : (flatK encW 66 d).toList = wfl ks := by rw [flat_W, hdk]
  rcases h.2 with ⟨h0, _⟩ | ⟨g', cap, cur, h0, hB, hg, h1, h2, h3, h4⟩
  · cases h0
  · injection h0 with h0 _ hc
    injection h0 with h0
    injection h0 with h0
    subst h0
    subst hc
    have hglt : g < w.heap.size := (Array.getElem?_eq_some_iff.1 hg).1
    have hH : HoldsK encW 66 w g 0 d := fun j hj => by
      rw [size_flatK, hdn] at hj
      refine ⟨?_, ?_⟩
      · rw [Nat.zero_add, h.cellAt j hj, ← hfl, Array.getElem?_toList, Array.getElem?_eq_getElem (by rw [size_flatK, hdn]; exact hj), getElem!_pos _ j (by rw [size_flatK, hdn]; exact hj)]
        rfl
      · rw [Nat.zero_add]; exact h.frozenAt j
    have hcon := AnyQ.slices_SortFunc_total laidSortF 66 Try.isAgg41 Try.sizeOf41 encW encW_length encW_one cfW swoW 29 #[] g 0 c d w (enters_of Try.func29 (by kernel_rfl) rfl) (cmpLaysW g 0 d.size w) hH hglt (by rw [hdn]; omega) totW
    rw [hdn] at hcon
    refine hcon.mono ?_
    rintro e w' ⟨rfl, m, os, rfl⟩
    obtain ⟨d', hd'⟩ : ∃ d' : Array WnK, d' = (d.toList.mergeSort fun x y => !(ltOf cfW) y x).toArray := ⟨_, rfl⟩
    rw [← hd']
    have hd'n : d'.size = n := by rw [hd', ← hdn]; simp
    have hd'k : d'.toList.map (·.1) = srt ks := by
      rw [hd', ← hdk]
      exact List.map_mergeSort (fun a _ b _ => by rw [ltOf_W])
    have hfl' : (flatK encW 66 d').toList = wfl (srt ks) := by rw [flat_W, hd'k]
    have hsz : (flatK encW 66 d').size = n * 66 := by rw [size_flatK, hd'n]
    have hblk : (sortWorldK encW 66 w g 0 m d' os).heap[g]? = some (.cells (putCells id 0 (flatK encW 66 d') cur) 41 (0, 0)) := by
      unfold sortWorldK putRowK
      rw [heap_grow_old _ _ (by simpa using hglt)]
      simp [putRow, mapBlock, Sort.ahead, Array.getElem?_modify, hg, onCells]
    refine ⟨rfl, ⟨?_, .inr ⟨g, c, _, rfl, hB, hblk, h1, h2, by simp [putCells, h3], ?_⟩⟩, rfl, rfl, rfl, ?_, fun k hk hne => ?_⟩
    · rw [wfl_length _ (fun k hk => hok k (srt_mem.1 hk)), srt_length, hkn]
    · rw [← hfl', ← hsz]
      exact take_putW cur _ (by rw [hsz, h3]; exact Nat.mul_le_mul_right _ h1)
    · unfold sortWorldK putRowK
      simp
    · unfold sortWorldK putRowK
      rw [heap_grow_old _ _ (by simpa using hk)]
      have : g ≠ k := fun e => hne e.symm
      simp [putRow, mapBlock, Sort.ahead, Array.getElem?_modify, this]
theorem sortf_none (w : World) (c : Nat) (A : Option Addr) : Calls Try.prog 34 #[.slice A 0 c, .func (.func 29) #[] #[]] w fun e w' => e = .returned (.tuple #[]) ∧ w' = w :=
  AnyF.slices_SortFunc_none laidSortF A c _ w
end Go.Proofs.Ythnpgiagajfaiaa
