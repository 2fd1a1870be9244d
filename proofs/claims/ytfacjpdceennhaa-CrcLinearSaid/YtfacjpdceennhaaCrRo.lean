/-
  The law CrcRows walked: rows' sum is that of all of them as one.
-/
import Derived.Test.YtfacjpdceennhaaCrW
import Derived.Test.YtfacjpdceennhaaOpenL
namespace Go.Proofs.Ytfacjpdceennhaa
open Go.RowKit Go.BigFrame
set_option linter.unusedVariables false

theorem info_u8c : (Try.prog.info? 5).map (fun i => (i.zero, i.size, i.bytes)) = some (some (.int .u8 0), 1, 1) := by kernel_rfl
theorem keeps_belowC {w w' : World} (h : Keeps (fun _ => False) w w') : Below w.heap.size w w' := h.below (Nat.le_refl _) (fun _ _ => id)
/-- Bytes that are those of these rows. -/
structure IsRowsOf (rs : List RowOf) (l : List UInt8) : Prop where
  out : bytesOf rs = l

set_option maxRecDepth 100000 in
set_option maxHeartbeats 1000000 in
theorem crows_many (A : Option Addr) (len c : Nat) (W : World) (hlen : 20 < len) (hmax : len ≤ 9223372036854775807) :
    Calls Try.prog 5 #[.slice A len c] W fun e W' => e = .returned (.bool true) ∧ Below W.heap.size W W' := by
  have haw := awake10_any W
  have HAW := Lib.hid haw
  clear haw
  go_enter Try.func5, Try.ntmps5
  go_wp2_with fail
  refine HAW.out.mono ?_
  rintro e w3 ⟨rfl, k3⟩
  go_wp2
  go_ret
  exact ⟨rfl, keeps_belowC k3⟩
set_option maxRecDepth 100000 in
set_option maxHeartbeats 2000000 in
theorem crows_few (A : Option Addr) (c : Nat) (rs : List RowOf) (W : World) (hR : RowsAt W A rs) (hlen : rs.length ≤ 20) :
    Calls Try.prog 5 #[.slice A rs.length c] W fun e W' => e = .returned (.bool true) ∧ Below W.heap.size W W' := by
  obtain ⟨i0, hi0, hz0, hs0, hb0⟩ := info_parts info_u8c
  have haw := awake10_any W
  have HAW := Lib.hid haw
  have HR := Lib.hid hR
  have HU := Lib.hid hlen
  clear haw hR
  go_enter Try.func5, Try.ntmps5
  go_wp2_with fail
  refine HAW.out.mono ?_
  rintro e w3 ⟨rfl, k3⟩
  clear HAW
  have HR3 : Hid (RowsAt w3 A rs) := HR.out.keeps k3 (fun _ _ => id)
  have HW : Hid (∀ V, Keeps (fun k => w3.heap.size ≤ k) w3 V → Below W.heap.size W V) := fun V hk => keeps_belowC (k3.trans' hk (fun i hi h => by have := k3.size; omega))
  clear HR k3
  go_wp2_with fail
  go_loopw [4, 5] (fun v iv wr => ∃ (i n : Nat) (l : List UInt8) (A0 : Option Addr) (c0 : Nat), i ≤ rs.length ∧ iv = .int .i64 i ∧ v = .slice A0 n c0 ∧ IsRowsOf (rs.take i) l ∧ l.length = n ∧ n ≤ 100 * i ∧ Hid (wr.ownsRow w3.heap.size 5 1 (.slice A0 n c0) n (bvs l)) ∧ Keeps (fun k => w3.heap.size ≤ k) w3 wr) (fun _ iv _ => rs.length - (intOf iv).toNat)
  case atStart => exact ⟨0, 0, [], none, 0, by omega, rfl, rfl, ⟨by rw [List.take_zero]; rfl⟩, rfl, by omega, Lib.hid (World.ownsRow_nil _ _ _ _), Keeps.refl _ _⟩
  case round =>
    obtain ⟨i, n, l, A0, c0, hi, rfl, rfl, HB, hln, hn, HO, hkp⟩ := hrel
    by_cases hlt : i < rs.length
    · obtain ⟨r, hr⟩ : ∃ r, rs[i]? = some r := ⟨_, List.getElem?_eq_getElem hlt⟩
      have hRw : RowsAt wr A rs := HR3.out.keeps hkp (fun k h1 h2 => by omega)
      obtain ⟨a, ha, hc⟩ := hRw.cell i r hr
      subst ha
      have hmem : r ∈ rs := List.mem_of_getElem? hr
      obtain ⟨hcap1, hcap2⟩ := hRw.cap r hmem
      have hsrc := hRw.src r hmem
      have hb := bytesOf_take rs i r hr
      obtain ⟨Ar, cA, xs⟩ := r
      have HBT := Lib.hid hb
      have HSRC := Lib.hid hsrc
      have hc' : wr.cell? (a.add i) = some (.slice Ar xs.length cA) := hc
      simp only at hcap1 hcap2
      clear hc hb hsrc hmem hr hRw
      by_cases h100 : 100 < xs.length
      · have fin := HW.out _ hkp
        go_wp2
        go_ret
        exact ⟨rfl, fin⟩
      · go_wp2_with (at_builtin; refine wpList_append_src _ rfl _ _ 22 rfl w3.heap.size 5 i0 (.int .u8 0) 1 Try.underlying22 hi0 hz0 hs0 hb0 rfl (.slice A0 n c0) n (bvs l) rfl HO.out Ar xs.length cA (bvs xs) rfl (bvs_length _) HSRC.out (bvs_one _) (by unfold maxLen; omega) (by omega) hkp.size ?next1)
        case next1 =>
        intro v5 w5 o5 g5 at5
        have K5 : Keeps (fun k => w3.heap.size ≤ k) w3 w5 := hkp.grown g5 (fun k hk hr => by have := (HO.out.lt k hr).1; omega)
        rw [bvs_append] at o5
        obtain ⟨A5, c5, rfl, _, _, _⟩ := RowIn.of_own o5
        have HO5 := Lib.hid o5
        have hB5 : IsRowsOf (rs.take (i + 1)) (l ++ xs) := ⟨by rw [HBT.out, HB.out]⟩
        clear o5 at5 g5 HBT HSRC
        go_wp2_with fail
        go_roundw
        case rel => exact ⟨i + 1, n + xs.length, l ++ xs, A5, c5, by omega, by go_num, by first | rfl | go_num, hB5, by rw [List.length_append, hln], by omega, HO5, K5⟩
        case measure => simp [intOf]; omega
    · have ei : rs.take i = rs := List.take_of_length_le (by omega)
      rw [ei] at HB
      have hll : n ≤ 2000 := by have := HU.out; omega
      clear ei
      obtain ⟨A4, c4, hv4, n4, m4, _⟩ := RowIn.of_own HO.out
      obtain ⟨rfl, rfl⟩ : A4 = A0 ∧ c4 = c0 := by injection hv4 with h1 _ h2; exact ⟨h1.symm, h2.symm⟩
      unfold maxLen at m4
      have s4 : Src wr A4 (bvs l) := Src.of_own HO.out
      have hRw : RowsAt wr A rs := HR3.out.keeps hkp (fun k h1 h2 => by omega)
      have hof := crc_any A c rs wr hRw (by omega) (fun r hr => Nat.le_trans (hRw.cap r hr).1 (hRw.cap r hr).2)
      rw [HB.out] at hof
      obtain ⟨V, hV⟩ : ∃ V, ci (Cr.sum l) = V := ⟨_, rfl⟩
      have hof' : Calls Try.prog 9 #[.slice A rs.length c] wr fun e w' => e = .returned (.int .u32 V) ∧ Keeps (fun _ => False) wr w' := by rw [← hV]; exact hof
      have HOF := Lib.hid hof'
      have HS4 := Lib.hid s4
      have HLN := Lib.hid hln
      have HV := Lib.hid hV
      clear hof hof' hV hRw s4 HO hln
      go_wp2_with fail
      refine HOF.out.mono ?_
      rintro e w5 ⟨rfl, k5⟩
      clear HOF
      obtain ⟨w6, hw6⟩ : ∃ V, w5.alloc (.cells #[.slice A4 n c4] 22) = V := ⟨_, rfl⟩
      have k6 : Keeps (fun _ => False) w5 w6 := by rw [← hw6]; exact (Keeps.refl _ _).alloc _
      have r6 : Row w6 w5.heap.size 22 [.slice A4 n c4] := by rw [← hw6]; exact heap_alloc_new w5 _
      have K6 : Keeps (fun _ => False) wr w6 := k5.trans k6
      have hof := crc_any _ 1 _ w6 (rowsAt_one (a := ⟨w5.heap.size, 0, none⟩) (r := (A4, c4, l)) (by rw [add_plain]; show _ = some (Value.slice A4 l.length c4); rw [HLN.out]; exact r6.cell 0) (HS4.out.keeps K6 (fun _ _ _ => id)) ⟨by show l.length ≤ c4; rw [HLN.out]; omega, by show c4 ≤ _; omega⟩) (by simp) (by simp [HLN.out]; omega)
      have e1 : bytesOf [(A4, c4, l)] = l := by simp [bytesOf]
      rw [e1] at hof
      have HOF : Hid (Calls Try.prog 9 #[.slice (some ⟨w5.heap.size, 0, none⟩) 1 1] w6 fun e w' => e = .returned (.int .u32 V) ∧ Keeps (fun _ => False) w6 w') := by rw [← HV.out]; exact hof
      have hK : Keeps (fun k => w3.heap.size ≤ k) w3 w6 := hkp.trans (K6.mono (fun _ _ h => h.elim))
      clear hof e1 r6 k5 k6 K6 hkp
      go_wp2_with fail
      refine HOF.out.mono ?_
      rintro e w7 ⟨rfl, k7⟩
      clear HOF hw6
      have fin := HW.out _ (hK.trans (k7.mono (T := fun k => w3.heap.size ≤ k) (fun _ _ h => h.elim)))
      go_wp2
      go_ret
      exact ⟨rfl, fin⟩
theorem crows_walk (A : Option Addr) (len c : Nat) (rs : List RowOf) (W : World) (hR : IsRows W A len c rs) :
    Calls Try.prog 5 #[.slice A len c] W fun e W' => e = .returned (.bool true) ∧ Below W.heap.size W W' := by
  obtain ⟨rfl, h1, h2, h3⟩ := hR
  by_cases h : rs.length ≤ 20
  · exact crows_few A c rs W h3 h
  · exact crows_many A rs.length c W (by omega) (by omega)
end Go.Proofs.Ytfacjpdceennhaa
