/-
  Entries as strings: texts, of the laws of layers 3 and 4. WRITTEN BY wip/gen/mkrt.py.
-/
import Derived.Test.YtnnhbgaeohdojaaDoorRfS
namespace Go.Proofs.YtnnhbgaeohdojaaDoor
open Go.RowKit Go.BigFrame
set_option linter.unusedVariables false

/-- Byte strings as cells. -/
def strs (l : List (List UInt8)) : List Value := l.map (fun x => Value.string (strOf x))
set_option maxHeartbeats 1000000 in
theorem texts3_any (A : Option Addr) (c : Nat) (rs : List RowOf) (w : World) (hR : RowsAt w A rs) (hn1 : rs.length ≤ 1000) :
    Calls Tryd.prog 13 #[.slice A rs.length c] w fun e w' => ∃ v, e = .returned v ∧ w'.ownsRow w.heap.size 9 1 v rs.length (strs (ents rs)) ∧ Keeps (fun _ => False) w w' := by
  obtain ⟨n, hn⟩ : ∃ n, rs.length = n := ⟨_, rfl⟩
  have HN := Lib.hid hn
  have HR := Lib.hid hR
  obtain ⟨i0, hi0, hz0, hs0, hb0⟩ := info_parts (show (Tryd.prog.info? 9).map (fun i => (i.zero, i.size, i.bytes)) = some (some (.string (strOf [])), 1, 16) by kernel_rfl)
  rw [hn] at hn1 ⊢
  obtain ⟨base, hbase⟩ : ∃ b, w.heap.size = b := ⟨_, rfl⟩
  have HBS := Lib.hid hbase
  have h0 : w.ownsRow base 9 1 (.slice none 0 0) 0 (strs ((ents rs).take 0)) := World.ownsRow_nil _ _ _ _
  have H0 := Lib.hid h0
  rw [hbase]
  clear hn hR hbase h0
  go_enter Tryd.func13, Tryd.ntmps13
  go_wp2_with fail
  go_loopw [3, 4] (fun ov iv wr => ∃ (i : Nat) (A1 : Option Addr) (c1 : Nat), i ≤ n ∧ ov = .slice A1 i c1 ∧ iv = .int .i64 (i : Int) ∧ Hid (wr.ownsRow base 9 1 (.slice A1 i c1) i (strs ((ents rs).take i))) ∧ Hid (Keeps (fun _ => False) w wr)) (fun _ iv _ => n - (intOf iv).toNat)
  case atStart => exact ⟨0, none, 0, by omega, rfl, rfl, H0, Lib.hid (Keeps.refl _ _)⟩
  case round =>
    clear H0
    obtain ⟨i, A1, c1, hi, rfl, rfl, HO, HK⟩ := hrel
    by_cases hlt : i < n
    · obtain ⟨r, hr⟩ : ∃ r, rs[i]? = some r := ⟨_, List.getElem?_eq_getElem (by rw [HN.out]; exact hlt)⟩
      have HRW := Lib.hid (HR.out.keeps HK.out (fun _ _ => id))
      obtain ⟨ad, e, hc⟩ := HRW.out.cell i r hr
      have hsrc := HRW.out.src r (List.mem_of_getElem? hr)
      have hne : strs ((ents rs).take (i + 1)) = strs ((ents rs).take i) ++ [.string (strOf r.2.2)] := by
        have he : (ents rs)[i]? = some r.2.2 := by unfold ents; rw [List.getElem?_map, hr]; rfl
        unfold strs
        rw [List.take_add_one, he, List.map_append]
        rfl
      subst e
      obtain ⟨Ar, cr, xs⟩ := r
      simp only at hc hsrc hne
      have hcv := run_string_src (P := Tryd.prog) wr 55 9 5 Tryd.underlying55 Tryd.underlying5 Tryd.underlying9 Ar xs cr hsrc
      obtain ⟨m, hm⟩ : ∃ m, xs.length = m := ⟨_, rfl⟩
      obtain ⟨st, hst⟩ : ∃ s, strOf xs = s := ⟨_, rfl⟩
      rw [hm] at hc hcv
      rw [hst] at hcv hne
      have HNE := Lib.hid hne
      clear hsrc hne hm hst hr
      go_wp2_with (refine wpList_append_own _ (by rfl) (.tmp 11) (.tmp 17) 26 (by rfl) base 9 i0 (.string (strOf [])) 1 16 Tryd.underlying26 hi0 hz0 hs0 hb0 rfl (by decide) (.slice A1 i c1) i (strs ((ents rs).take i)) (by rfl) (Keeps.owns (S := fun _ => False) ((Keeps.refl _ _).alloc _) HO.out (fun _ _ => id)) ⟨wr.heap.size, 0, none⟩ 1 1 [.string st] (by rfl) (by rfl) (World.news_of_block (heap_alloc_new wr _)) (by intro u hu; rw [List.mem_singleton] at hu; subst hu; rfl) (by unfold maxLen; omega) (by omega) (by have := HK.out.size; have := HBS.out; simp; omega) ?_; intro v3 w3 ho3 hg3 _; have HO3 := Lib.hid ho3; have HG3 := Lib.hid hg3; obtain ⟨A3, c3, rfl⟩ := own_slice ho3; clear ho3 hg3)
      go_roundw
      case rel =>
        refine ⟨i + 1, A3, c3, by omega, by go_num, by go_num, Lib.hid ?_, Lib.hid ?_⟩
        · rw [HNE.out]
          exact HO3.out
        · exact (HK.out.alloc _).grown HG3.out (fun k hk hr => by
            obtain ⟨_, _, hb⟩ := own_block HO.out k hr
            have := HBS.out
            omega)
      case measure => simp [intOf]; omega
    · obtain rfl : i = n := by omega
      have hall : (ents rs).take i = ents rs := List.take_of_length_le (by rw [ents_length, HN.out]; exact Nat.le_refl _)
      have hof := HO.out
      rw [hall] at hof
      have HOF := Lib.hid hof
      clear hall hof hlt HO
      go_wp2
      go_ret
      exact ⟨_, rfl, HOF.out, HK.out⟩
set_option maxHeartbeats 1000000 in
theorem texts4_any (A : Option Addr) (c : Nat) (rs : List RowOf) (w : World) (hR : RowsAt w A rs) (hn1 : rs.length ≤ 1000) :
    Calls Tryd.prog 25 #[.slice A rs.length c] w fun e w' => ∃ v, e = .returned v ∧ w'.ownsRow w.heap.size 9 1 v rs.length (strs (ents rs)) ∧ Keeps (fun _ => False) w w' := by
  obtain ⟨n, hn⟩ : ∃ n, rs.length = n := ⟨_, rfl⟩
  have HN := Lib.hid hn
  have HR := Lib.hid hR
  obtain ⟨i0, hi0, hz0, hs0, hb0⟩ := info_parts (show (Tryd.prog.info? 9).map (fun i => (i.zero, i.size, i.bytes)) = some (some (.string (strOf [])), 1, 16) by kernel_rfl)
  rw [hn] at hn1 ⊢
  obtain ⟨base, hbase⟩ : ∃ b, w.heap.size = b := ⟨_, rfl⟩
  have HBS := Lib.hid hbase
  have h0 : w.ownsRow base 9 1 (.slice none 0 0) 0 (strs ((ents rs).take 0)) := World.ownsRow_nil _ _ _ _
  have H0 := Lib.hid h0
  rw [hbase]
  clear hn hR hbase h0
  go_enter Tryd.func25, Tryd.ntmps25
  go_wp2_with fail
  go_loopw [3, 4] (fun ov iv wr => ∃ (i : Nat) (A1 : Option Addr) (c1 : Nat), i ≤ n ∧ ov = .slice A1 i c1 ∧ iv = .int .i64 (i : Int) ∧ Hid (wr.ownsRow base 9 1 (.slice A1 i c1) i (strs ((ents rs).take i))) ∧ Hid (Keeps (fun _ => False) w wr)) (fun _ iv _ => n - (intOf iv).toNat)
  case atStart => exact ⟨0, none, 0, by omega, rfl, rfl, H0, Lib.hid (Keeps.refl _ _)⟩
  case round =>
    clear H0
    obtain ⟨i, A1, c1, hi, rfl, rfl, HO, HK⟩ := hrel
    by_cases hlt : i < n
    · obtain ⟨r, hr⟩ : ∃ r, rs[i]? = some r := ⟨_, List.getElem?_eq_getElem (by rw [HN.out]; exact hlt)⟩
      have HRW := Lib.hid (HR.out.keeps HK.out (fun _ _ => id))
      obtain ⟨ad, e, hc⟩ := HRW.out.cell i r hr
      have hsrc := HRW.out.src r (List.mem_of_getElem? hr)
      have hne : strs ((ents rs).take (i + 1)) = strs ((ents rs).take i) ++ [.string (strOf r.2.2)] := by
        have he : (ents rs)[i]? = some r.2.2 := by unfold ents; rw [List.getElem?_map, hr]; rfl
        unfold strs
        rw [List.take_add_one, he, List.map_append]
        rfl
      subst e
      obtain ⟨Ar, cr, xs⟩ := r
      simp only at hc hsrc hne
      have hcv := run_string_src (P := Tryd.prog) wr 55 9 5 Tryd.underlying55 Tryd.underlying5 Tryd.underlying9 Ar xs cr hsrc
      obtain ⟨m, hm⟩ : ∃ m, xs.length = m := ⟨_, rfl⟩
      obtain ⟨st, hst⟩ : ∃ s, strOf xs = s := ⟨_, rfl⟩
      rw [hm] at hc hcv
      rw [hst] at hcv hne
      have HNE := Lib.hid hne
      clear hsrc hne hm hst hr
      go_wp2_with (refine wpList_append_own _ (by rfl) (.tmp 11) (.tmp 17) 26 (by rfl) base 9 i0 (.string (strOf [])) 1 16 Tryd.underlying26 hi0 hz0 hs0 hb0 rfl (by decide) (.slice A1 i c1) i (strs ((ents rs).take i)) (by rfl) (Keeps.owns (S := fun _ => False) ((Keeps.refl _ _).alloc _) HO.out (fun _ _ => id)) ⟨wr.heap.size, 0, none⟩ 1 1 [.string st] (by rfl) (by rfl) (World.news_of_block (heap_alloc_new wr _)) (by intro u hu; rw [List.mem_singleton] at hu; subst hu; rfl) (by unfold maxLen; omega) (by omega) (by have := HK.out.size; have := HBS.out; simp; omega) ?_; intro v3 w3 ho3 hg3 _; have HO3 := Lib.hid ho3; have HG3 := Lib.hid hg3; obtain ⟨A3, c3, rfl⟩ := own_slice ho3; clear ho3 hg3)
      go_roundw
      case rel =>
        refine ⟨i + 1, A3, c3, by omega, by go_num, by go_num, Lib.hid ?_, Lib.hid ?_⟩
        · rw [HNE.out]
          exact HO3.out
        · exact (HK.out.alloc _).grown HG3.out (fun k hk hr => by
            obtain ⟨_, _, hb⟩ := own_block HO.out k hr
            have := HBS.out
            omega)
      case measure => simp [intOf]; omega
    · obtain rfl : i = n := by omega
      have hall : (ents rs).take i = ents rs := List.take_of_length_le (by rw [ents_length, HN.out]; exact Nat.le_refl _)
      have hof := HO.out
      rw [hall] at hof
      have HOF := Lib.hid hof
      clear hall hof hlt HO
      go_wp2
      go_ret
      exact ⟨_, rfl, HOF.out, HK.out⟩
end Go.Proofs.YtnnhbgaeohdojaaDoor
