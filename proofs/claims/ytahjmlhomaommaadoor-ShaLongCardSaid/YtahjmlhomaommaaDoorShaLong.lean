/-
  The law ShaLong walked: many short rows are hashed as one long one.
-/
import Derived.Test.YtahjmlhomaommaaDoorShaW
import Derived.Test.YtahjmlhomaommaaDoorOpenR
namespace Go.Proofs.YtahjmlhomaommaaDoor
open Go.RowKit Go.BigFrame
set_option linter.unusedVariables false

theorem keeps_below3 {w w' : World} (h : Keeps (fun _ => False) w w') : Below w.heap.size w w' := h.below (Nat.le_refl _) (fun _ _ => id)
/-- Bytes that are those of these rows. -/
structure IsBytes (rs : List RowOf) (l : List UInt8) : Prop where
  out : bytesOf rs = l
structure Short (l : List UInt8) (i : Nat) : Prop where
  out : l.length ≤ 100 * i

set_option maxRecDepth 100000 in
set_option maxHeartbeats 1000000 in
theorem long_many (A : Option Addr) (len c : Nat) (W : World) (hT : Tabs W) (hlen : 20 < len) (hmax : len ≤ 9223372036854775807) :
    Calls Tryd.prog 7 #[.slice A len c] W fun e W' => e = .returned (.bool true) ∧ Below W.heap.size W W' := by
  have haw := awake2_any W hT
  have HAW := Lib.hid haw
  clear haw hT
  go_enter Tryd.func7, Tryd.ntmps7
  go_wp2_with fail
  refine HAW.out.mono ?_
  rintro e w3 ⟨rfl, k3⟩
  go_wp2
  go_ret
  exact ⟨rfl, keeps_below3 k3⟩
set_option maxRecDepth 100000 in
set_option maxHeartbeats 2000000 in
theorem long_some (a : Addr) (c : Nat) (rs : List RowOf) (W : World) (hT : Tabs W) (hR : RowsAt W (some a) rs) (hlen : rs.length ≤ 20) :
    Calls Tryd.prog 7 #[.slice (some a) rs.length c] W fun e W' => e = .returned (.bool true) ∧ Below W.heap.size W W' := by
  obtain ⟨i0, hi0, hz0, hs0, hb0⟩ := info_parts info_u8t
  have haw := awake2_any W hT
  have HAW := Lib.hid haw
  have HT := Lib.hid hT
  have HR := Lib.hid hR
  have HU := Lib.hid hlen
  clear haw hT hR
  go_enter Tryd.func7, Tryd.ntmps7
  go_wp2_with fail
  refine HAW.out.mono ?_
  rintro e w3 ⟨rfl, k3⟩
  clear HAW
  have HT3 : Hid (Tabs w3) := HT.out.keeps k3 id id
  have HR3 : Hid (RowsAt w3 (some a) rs) := HR.out.keeps k3 (fun _ _ => id)
  have HW : Hid (∀ V, Keeps (fun k => w3.heap.size ≤ k) w3 V → Below W.heap.size W V) := fun V hk => keeps_below3 (k3.trans' hk (fun i hi h => by have := k3.size; omega))
  clear HT HR k3
  go_wp2_with fail
  go_loopw [4, 5] (fun v iv wr => ∃ (i n : Nat) (l : List UInt8) (A0 : Option Addr) (c0 : Nat), i ≤ rs.length ∧ iv = .int .i64 i ∧ v = .slice A0 n c0 ∧ IsBytes (rs.take i) l ∧ l.length = n ∧ n ≤ 100 * i ∧ Hid (wr.ownsRow w3.heap.size 5 1 (.slice A0 n c0) n (bvs l)) ∧ Keeps (fun k => w3.heap.size ≤ k) w3 wr) (fun _ iv _ => rs.length - (intOf iv).toNat)
  case atStart => exact ⟨0, 0, [], none, 0, by omega, rfl, rfl, ⟨by rw [List.take_zero]; rfl⟩, rfl, by omega, Lib.hid (World.ownsRow_nil _ _ _ _), Keeps.refl _ _⟩
  case round =>
    obtain ⟨i, n, l, A0, c0, hi, rfl, rfl, HB, hln, hn, HO, hkp⟩ := hrel
    by_cases hlt : i < rs.length
    · obtain ⟨r, hr⟩ : ∃ r, rs[i]? = some r := ⟨_, List.getElem?_eq_getElem hlt⟩
      have hRw : RowsAt wr (some a) rs := HR3.out.keeps hkp (fun k h1 h2 => by omega)
      obtain ⟨ad, ha, hc⟩ := hRw.cell i r hr
      obtain rfl : a = ad := Option.some.inj ha
      clear ha
      have hmem : r ∈ rs := List.mem_of_getElem? hr
      obtain ⟨hcap1, hcap2⟩ := hRw.cap r hmem
      have hsrc := hRw.src r hmem
      have hb := bytesOf_take rs i r hr
      obtain ⟨A, cA, xs⟩ := r
      have HBT := Lib.hid hb
      have HSRC := Lib.hid hsrc
      have hc' : wr.cell? (a.add i) = some (.slice A xs.length cA) := hc
      simp only at hcap1 hcap2
      clear hc hb hsrc hmem hr hRw
      by_cases h100 : 100 < xs.length
      · have fin := HW.out _ hkp
        go_wp2
        go_ret
        exact ⟨rfl, fin⟩
      · go_wp2_with (at_builtin; refine wpList_append_src _ rfl _ _ 22 rfl w3.heap.size 5 i0 (.int .u8 0) 1 Tryd.underlying22 hi0 hz0 hs0 hb0 rfl (.slice A0 n c0) n (bvs l) rfl HO.out A xs.length cA (bvs xs) rfl (bvs_length _) HSRC.out (bvs_one _) (by unfold maxLen; omega) (by omega) hkp.size ?next1)
        case next1 =>
        intro v5 w5 o5 g5 at5
        have K5 : Keeps (fun k => w3.heap.size ≤ k) w3 w5 := hkp.grown g5 (fun k hk hr => by have := (HO.out.lt k hr).1; omega)
        rw [bvs_append] at o5
        obtain ⟨A5, c5, rfl, _, _, _⟩ := RowIn.of_own o5
        have HO5 := Lib.hid o5
        have hB5 : IsBytes (rs.take (i + 1)) (l ++ xs) := ⟨by rw [HBT.out, HB.out]⟩
        clear o5 at5 g5 HBT HSRC
        go_wp2_with fail
        go_roundw
        case rel => exact ⟨i + 1, n + xs.length, l ++ xs, A5, c5, by omega, by go_num, by first | rfl | go_num, hB5, by rw [List.length_append, hln], by omega, HO5, K5⟩
        case measure => simp [intOf]; omega
    · have ei : rs.take i = rs := List.take_of_length_le (by omega)
      rw [ei] at HB
      have hll : n ≤ 2000 := by have := HU.out; omega
      clear ei
      obtain ⟨A4, c4, hv4, n4, m4, _⟩ := RowIn.of_own HO.out
      obtain ⟨rfl, rfl⟩ : A4 = A0 ∧ c4 = c0 := by injection hv4 with h1 _ h2; exact ⟨h1.symm, h2.symm⟩
      unfold maxLen at m4
      have s4 : Src wr A4 (bvs l) := Src.of_own HO.out
      have hRw : RowsAt wr (some a) rs := HR3.out.keeps hkp (fun k h1 h2 => by omega)
      have hTw : Tabs wr := HT3.out.keeps hkp (by have := HT3.out.lt; omega) (by have := HT3.out.lt; omega)
      have hof := of_any (some a) c rs wr hTw hRw (by omega) (by rw [HB.out, hln]; omega)
      obtain ⟨V, hV⟩ : ∃ V, Sh.sha (bytesOf rs) = V := ⟨_, rfl⟩
      have hL : V.length = 32 := by rw [← hV]; exact Sh.sha_length _
      rw [hV] at hof
      have HV : IsSha (bytesOf rs) V := ⟨hV⟩
      have HOF := Lib.hid hof
      have HL := Lib.hid hL
      have HS4 := Lib.hid s4
      have HTW := Lib.hid hTw
      have HLN := Lib.hid hln
      clear hof hV hRw hTw s4 HO hL hln
      go_wp2_with fail
      refine HOF.out.mono ?_
      rintro e w5 ⟨rfl, k5⟩
      clear HOF
      obtain ⟨w6, hw6⟩ : ∃ V, w5.alloc (.cells #[.slice A4 n c4] 22) = V := ⟨_, rfl⟩
      have k6 : Keeps (fun _ => False) w5 w6 := by rw [← hw6]; exact (Keeps.refl _ _).alloc _
      have r6 : Row w6 w5.heap.size 22 [.slice A4 n c4] := by rw [← hw6]; exact heap_alloc_new w5 _
      have K6 : Keeps (fun _ => False) wr w6 := k5.trans k6
      have hof := of_any _ 1 _ w6 (HTW.out.keeps K6 id id) (rowsAt_one (a := ⟨w5.heap.size, 0, none⟩) (r := (A4, c4, l)) (by rw [add_plain]; show _ = some (Value.slice A4 l.length c4); rw [HLN.out]; exact r6.cell 0) (HS4.out.keeps K6 (fun _ _ _ => id)) ⟨by show l.length ≤ c4; rw [HLN.out]; omega, by show c4 ≤ _; omega⟩) (by simp) (by simp [bytesOf, HLN.out]; omega)
      have e1 : bytesOf [(A4, c4, l)] = bytesOf rs := by rw [HB.out]; simp [bytesOf]
      rw [e1, HV.out] at hof
      have HOF : Hid (Calls Tryd.prog 9 #[.slice (some ⟨w5.heap.size, 0, none⟩) 1 1] w6 fun e w' => e = .returned (.agg (bvs V).toArray) ∧ Keeps (fun _ => False) w6 w') := hof
      have HE : Hid (∀ (V : List UInt8), V.length = 32 → ∀ W : World, (binOp .eql 24 (.agg (bvs V).toArray) (.agg (bvs V).toArray)).run Tryd.prog W = .ok (.bool true) W) := fun V hV W => by
        rw [run_eql_bytes W 24 5 32 Tryd.underlying24 Tryd.underlying5 hi0 (by kernel_rfl) (by kernel_rfl) V V hV hV]
        simp
      have hK : Keeps (fun k => w3.heap.size ≤ k) w3 w6 := hkp.trans (K6.mono (fun _ _ h => h.elim))
      clear hof e1 r6 k5 k6 K6 hkp
      go_wp2_with fail
      refine HOF.out.mono ?_
      rintro e w7 ⟨rfl, k7⟩
      clear HOF hw6
      have fin := HW.out _ (hK.trans (k7.mono (T := fun k => w3.heap.size ≤ k) (fun _ _ h => h.elim)))
      go_wp2_with (refine wpList_eq_agg_w (by rfl) .eql 24 _ (.tmp 31) (.tmp 34) (by rfl) (bvs V).toArray (bvs V).toArray (by rfl) (by rfl) (by kernel_rfl) (.bool true) (HE.out V HL.out _) ?_)
      go_ret
      exact ⟨rfl, fin⟩
set_option maxRecDepth 100000 in
set_option maxHeartbeats 2000000 in
theorem long_none (c : Nat) (rs : List RowOf) (W : World) (hT : Tabs W) (hR : RowsAt W none rs) (hlen : rs.length ≤ 20) :
    Calls Tryd.prog 7 #[.slice none rs.length c] W fun e W' => e = .returned (.bool true) ∧ Below W.heap.size W W' := by
  obtain ⟨i0, hi0, hz0, hs0, hb0⟩ := info_parts info_u8t
  have haw := awake2_any W hT
  have HAW := Lib.hid haw
  have HT := Lib.hid hT
  have HR := Lib.hid hR
  have HU := Lib.hid hlen
  clear haw hT hR
  go_enter Tryd.func7, Tryd.ntmps7
  go_wp2_with fail
  refine HAW.out.mono ?_
  rintro e w3 ⟨rfl, k3⟩
  clear HAW
  have HT3 : Hid (Tabs w3) := HT.out.keeps k3 id id
  have HR3 : Hid (RowsAt w3 none rs) := HR.out.keeps k3 (fun _ _ => id)
  have HW : Hid (∀ V, Keeps (fun k => w3.heap.size ≤ k) w3 V → Below W.heap.size W V) := fun V hk => keeps_below3 (k3.trans' hk (fun i hi h => by have := k3.size; omega))
  clear HT HR k3
  go_wp2_with fail
  go_loopw [4, 5] (fun v iv wr => ∃ (i n : Nat) (l : List UInt8) (A0 : Option Addr) (c0 : Nat), i ≤ rs.length ∧ iv = .int .i64 i ∧ v = .slice A0 n c0 ∧ IsBytes (rs.take i) l ∧ l.length = n ∧ n ≤ 100 * i ∧ Hid (wr.ownsRow w3.heap.size 5 1 (.slice A0 n c0) n (bvs l)) ∧ Keeps (fun k => w3.heap.size ≤ k) w3 wr) (fun _ iv _ => rs.length - (intOf iv).toNat)
  case atStart => exact ⟨0, 0, [], none, 0, by omega, rfl, rfl, ⟨by rw [List.take_zero]; rfl⟩, rfl, by omega, Lib.hid (World.ownsRow_nil _ _ _ _), Keeps.refl _ _⟩
  case round =>
    obtain ⟨i, n, l, A0, c0, hi, rfl, rfl, HB, hln, hn, HO, hkp⟩ := hrel
    by_cases hlt : i < rs.length
    · obtain ⟨r, hr⟩ : ∃ r, rs[i]? = some r := ⟨_, List.getElem?_eq_getElem hlt⟩
      obtain ⟨ad, ha, hc⟩ := HR3.out.cell i r hr
      cases ha
    · have ei : rs.take i = rs := List.take_of_length_le (by omega)
      rw [ei] at HB
      have hll : n ≤ 2000 := by have := HU.out; omega
      clear ei
      obtain ⟨A4, c4, hv4, n4, m4, _⟩ := RowIn.of_own HO.out
      obtain ⟨rfl, rfl⟩ : A4 = A0 ∧ c4 = c0 := by injection hv4 with h1 _ h2; exact ⟨h1.symm, h2.symm⟩
      unfold maxLen at m4
      have s4 : Src wr A4 (bvs l) := Src.of_own HO.out
      have hRw : RowsAt wr none rs := HR3.out.keeps hkp (fun k h1 h2 => by omega)
      have hTw : Tabs wr := HT3.out.keeps hkp (by have := HT3.out.lt; omega) (by have := HT3.out.lt; omega)
      have hof := of_any none c rs wr hTw hRw (by omega) (by rw [HB.out, hln]; omega)
      obtain ⟨V, hV⟩ : ∃ V, Sh.sha (bytesOf rs) = V := ⟨_, rfl⟩
      have hL : V.length = 32 := by rw [← hV]; exact Sh.sha_length _
      rw [hV] at hof
      have HV : IsSha (bytesOf rs) V := ⟨hV⟩
      have HOF := Lib.hid hof
      have HL := Lib.hid hL
      have HS4 := Lib.hid s4
      have HTW := Lib.hid hTw
      have HLN := Lib.hid hln
      clear hof hV hRw hTw s4 HO hL hln
      go_wp2_with fail
      refine HOF.out.mono ?_
      rintro e w5 ⟨rfl, k5⟩
      clear HOF
      obtain ⟨w6, hw6⟩ : ∃ V, w5.alloc (.cells #[.slice A4 n c4] 22) = V := ⟨_, rfl⟩
      have k6 : Keeps (fun _ => False) w5 w6 := by rw [← hw6]; exact (Keeps.refl _ _).alloc _
      have r6 : Row w6 w5.heap.size 22 [.slice A4 n c4] := by rw [← hw6]; exact heap_alloc_new w5 _
      have K6 : Keeps (fun _ => False) wr w6 := k5.trans k6
      have hof := of_any _ 1 _ w6 (HTW.out.keeps K6 id id) (rowsAt_one (a := ⟨w5.heap.size, 0, none⟩) (r := (A4, c4, l)) (by rw [add_plain]; show _ = some (Value.slice A4 l.length c4); rw [HLN.out]; exact r6.cell 0) (HS4.out.keeps K6 (fun _ _ _ => id)) ⟨by show l.length ≤ c4; rw [HLN.out]; omega, by show c4 ≤ _; omega⟩) (by simp) (by simp [bytesOf, HLN.out]; omega)
      have e1 : bytesOf [(A4, c4, l)] = bytesOf rs := by rw [HB.out]; simp [bytesOf]
      rw [e1, HV.out] at hof
      have HOF : Hid (Calls Tryd.prog 9 #[.slice (some ⟨w5.heap.size, 0, none⟩) 1 1] w6 fun e w' => e = .returned (.agg (bvs V).toArray) ∧ Keeps (fun _ => False) w6 w') := hof
      have HE : Hid (∀ (V : List UInt8), V.length = 32 → ∀ W : World, (binOp .eql 24 (.agg (bvs V).toArray) (.agg (bvs V).toArray)).run Tryd.prog W = .ok (.bool true) W) := fun V hV W => by
        rw [run_eql_bytes W 24 5 32 Tryd.underlying24 Tryd.underlying5 hi0 (by kernel_rfl) (by kernel_rfl) V V hV hV]
        simp
      have hK : Keeps (fun k => w3.heap.size ≤ k) w3 w6 := hkp.trans (K6.mono (fun _ _ h => h.elim))
      clear hof e1 r6 k5 k6 K6 hkp
      go_wp2_with fail
      refine HOF.out.mono ?_
      rintro e w7 ⟨rfl, k7⟩
      clear HOF hw6
      have fin := HW.out _ (hK.trans (k7.mono (T := fun k => w3.heap.size ≤ k) (fun _ _ h => h.elim)))
      go_wp2_with (refine wpList_eq_agg_w (by rfl) .eql 24 _ (.tmp 31) (.tmp 34) (by rfl) (bvs V).toArray (bvs V).toArray (by rfl) (by rfl) (by kernel_rfl) (.bool true) (HE.out V HL.out _) ?_)
      go_ret
      exact ⟨rfl, fin⟩
/-- All. -/
theorem long_all (a : Option Addr) (len c : Nat) (rs : List RowOf) (W : World) (hT : Tabs W) (h0 : IsRows W a len c rs) :
    Calls Tryd.prog 7 #[.slice a len c] W fun e W' => e = .returned (.bool true) ∧ Below W.heap.size W W' := by
  have h1 := h0.le
  have h2 := h0.max
  by_cases hlen : 20 < len
  · exact long_many a len c W hT hlen (by omega)
  · obtain ⟨rfl, _, _, hR⟩ := h0
    cases a with
    | none => exact long_none c rs W hT hR (by omega)
    | some a => exact long_some a c rs W hT hR (by omega)
end Go.Proofs.YtahjmlhomaommaaDoor
