/-
  OctetPuts: what is put of any numbers and bytes is the document's: for whatever number, size, bytes and hash, the law returns true.
-/
import Derived.Test.YtgbdedkbkagndaaRef
import Derived.BigRegion
import Derived.Deep.RegionHeld3
import Derived.Deep.DrawnRows
namespace Go.Proofs.Ytgbdedkbkagndaa
open Go.RowKit
set_option linter.unusedVariables false

section
variable {P : Program} {ops : Array Oper} {Q : Exit → Act → World → Prop} {md : Region.Mode} {S S' : World → Prop}
/-- The condition that a region holds may be made to say more, midway. -/
theorem wpAnyH_less (hi : ∀ w, S' w → S w) : ∀ (fuel : Nat) (listed : Array Bool) (a : Act) (w : World), wpAnyH P md ops Q S' fuel listed a w → wpAnyH P md ops Q S fuel listed a w
  | 0, _, _, _, h => h
  | fuel + 1, _, _, _, h => ⟨h.1, fun i hr => wpOp_mono (fun a' w' h' => ⟨hi _ h'.1, wpAnyH_less hi fuel _ a' w' h'.2⟩) (h.2 i hr)⟩
theorem shut_more {fuel : Nat} {listed : Array Bool} {K : Act → World → Prop} (hi : ∀ w, S' w → S w)
    (h : Shut (∀ a w, S w → (S w → wpAnyH P md ops Q S fuel listed a w) → K a w)) :
    Shut (∀ a w, S' w → (S' w → wpAnyH P md ops Q S' fuel listed a w) → K a w) :=
  fun a w hS hW => h.out a w (hi w hS) (fun _ => wpAnyH_less hi fuel listed a w (hW hS))
theorem shut_eq (S S' : World → Prop) {fuel : Nat} {listed : Array Bool} {K : Act → World → Prop} (hi : ∀ w, S' w → S w)
    (h : Shut (∀ a w, S w → (S w → wpAnyH P md ops Q S fuel listed a w) → K a w)) :
    Shut (∀ a w, S w → (S w → wpAnyH P md ops Q S fuel listed a w) → K a w) = Shut (∀ a w, S' w → (S' w → wpAnyH P md ops Q S' fuel listed a w) → K a w) :=
  propext (iff_of_true h (shut_more hi h))
end

attribute [local go_sem ↓] Go.wp_at_zero Go.wp_at_succ
set_option maxHeartbeats 800000 in
theorem puts_walk (x m : Int) (A : Option Addr) (len cap : Nat) (zs : List Int) (hs' : List UInt8) (w : World) (hxw : (Lit.int .u64 x).wf = true) (hr : IsRowU .u8 w A len cap zs) (hh : hs'.length = 32) :
    Calls Try.prog 3 #[.int .u64 x, .int .i64 m, .slice A len cap, .agg (bvs hs').toArray] w fun e w' => e = .returned (.bool true) ∧ Below w.heap.size w w' := by
  obtain ⟨bs, rfl, hs, hlc, hcm⟩ := hr.src
  have hx := bounds_u64 hxw
  have hH : Hid (hs'.length = 32) := hh
  have hi32 : Hid ((Try.prog.info? 25).map (·.size) = some (bvs hs').toArray.size) := by
    show _ = _
    rw [List.size_toArray, bvs_length, hh]
    exact size_hash
  have kb : Below w.heap.size w (w.alloc (.cells (bvs hs').toArray 25)) := (Below.refl _ _).alloc (Nat.le_refl _) _
  have hbk : (w.alloc (.cells (bvs hs').toArray 25)).heap[w.heap.size]? = some (.cells (bvs hs').toArray 25 (0, 0)) := heap_alloc_new w _
  have HBK := Lib.hid hbk
  have KB := Lib.hid kb
  have AW := Lib.hid (awake_any (w.alloc (.cells (bvs hs').toArray 25)))
  clear hr hxw hbk kb hh
  by_cases hlen : bs.length ≤ 300
  · go_enter Try.func3, Try.ntmps3
    go_wp2_with fail
    refine AW.out.mono ?_
    rintro e w1 ⟨rfl, k1⟩
    have hsW := hs.alloc (.cells (bvs hs').toArray 25)
    have hgW : w.heap.size < (w.alloc (.cells (bvs hs').toArray 25)).heap.size := by simp
    obtain ⟨W, hW⟩ : ∃ W, w.alloc (.cells (bvs hs').toArray 25) = W := ⟨_, rfl⟩
    rw [hW] at HBK KB k1 hsW hgW
    clear hW AW hs
    obtain ⟨g, hg⟩ : ∃ g, w.heap.size = g := ⟨_, rfl⟩
    rw [hg] at HBK KB hgW ⊢
    have KB2 : Hid (∀ w', Below W.heap.size W w' → Below g w w') := fun w' h => KB.out.trans (h.mono (Nat.le_of_lt hgW))
    have HFIN : Hid (∀ w', Below W.heap.size W w' → Below w.heap.size w w') := fun w' h => by rw [hg]; exact KB2.out w' h
    clear hg KB
    go_wp2_with fail
    refine (newWriterB W.heap.size _ k1.size).mono ?_
    rintro e w2 ⟨b, rfl, hw2, k2⟩
    go_wp2_with fail
    refine (wrNumB _ b _ x m _ hw2 hx.1 (by simp)).mono ?_
    rintro e w3 ⟨rfl, hw3, k3⟩
    rw [List.nil_append] at hw3
    have K3 := (k1.trans k2).trans k3
    have hnl : (numB x m).length ≤ 8 := by
      unfold numB
      split
      · rw [nb_length]; omega
      · simp
    clear k1 k2 k3 hw2
    go_wp2_with fail
    refine (wrBytesB b _ bs A cap W _ K3 hw3 hsW hlc (by omega) (by omega)).mono ?_
    rintro e w4 ⟨rfl, hw4, k4⟩
    have K4 := K3.trans k4
    clear K3 k4 hw3
    go_wp2_with fail
    refine (wrRawB _ b _ bs A cap _ hw4 (hsW.later K4) (by simp [nb_length]; omega)).mono ?_
    rintro e w5 ⟨rfl, hw5, k5⟩
    have K5 := K4.trans k5
    clear K4 k5 hw4
    have hb5 := (K5.block g hgW).trans HBK.out
    have HB5 := Lib.hid hb5
    clear hb5
    go_wp2_with (refine wpList_load_row rfl 25 (.tmp 7) rfl g rfl 25 (bvs hs').toArray (0, 0) _ HB5.out Try.underlying25 rfl hi32.out ?_)
    refine (wrHashB _ b _ hs' _ hw5 hH.out (by simp [nb_length]; omega)).mono ?_
    rintro e w6 ⟨rfl, hw6, k6⟩
    have K6 := K5.trans k6
    obtain ⟨ps, hps⟩ : ∃ ps, numB x m ++ (nb (bs.length : Int) 2 ++ bs) ++ bs ++ hs' = ps := ⟨_, rfl⟩
    have hpl : ps.length ≤ 700 := by rw [← hps]; simp [nb_length, hH.out]; omega
    rw [hps] at hw6
    have HPS := Lib.hid hps
    clear K5 k6 hw5 HB5 hps
    go_wp2_with fail
    go_loopw [11, 12] (fun s i wr => ∃ k : Nat, k ≤ 32 ∧ i = .int .i64 k ∧ s = .string (strOf (hs'.take k)) ∧ Below W.heap.size W wr ∧ WrB wr W.heap.size b ps) (fun _ i _ => 32 - (intOf i).toNat)
    case atStart => exact ⟨0, by omega, rfl, rfl, K6, hw6⟩
    case round =>
      obtain ⟨k, hk, rfl, rfl, hbl, hwr⟩ := hrel
      clear K6 hw6
      by_cases hlt : k < 32
      · have hkl : k < hs'.length := by rw [hH.out]; exact hlt
        have hc : wr.cell? ⟨g, k, none⟩ = some (.int .u8 (hs'[k].toNat : Int)) := by
          rw [cell0 ((hbl.block g hgW).trans HBK.out) k, List.getElem?_toArray]
          exact bvs_at hs' hkl
        have hts := List.take_succ_eq_append_getElem hkl
        have htl : (strOf (hs'.take k)).size ≤ 32 := by rw [strOf_size, List.length_take]; omega
        generalize hs'[k] = c at *
        generalize hs'.take k = ys at *
        have HTS := Lib.hid hts
        have hcv := fun (W : World) => run_string_src (P := Try.prog) (W.alloc (.cells #[.int .u8 (c.toNat : Int)] 5)) 23 9 5 Try.underlying23 Try.underlying5 Try.underlying9 (some ⟨W.heap.size, 0, none⟩) [c] 1 (fun j u hu => ⟨_, rfl, World.news_of_block (heap_alloc_new W _) j u hu⟩)
        have HCV : ∀ W : World, (convert 23 9 (.slice (some ⟨W.heap.size, 0, none⟩) 1 1)).run Try.prog (W.alloc (.cells #[.int .u8 (c.toNat : Int)] 5)) = .ok (.string (strOf [c])) (W.alloc (.cells #[.int .u8 (c.toNat : Int)] 5)) := hcv
        have hc1 : (strOf [c]).size ≤ 1 := Nat.le_refl _
        have hsz : Hid (Below W.heap.size W (wr.alloc (.cells #[.int .u8 (c.toNat : Int)] 5))) := hbl.alloc hbl.size _
        have hwz : Hid (WrB (wr.alloc (.cells #[.int .u8 (c.toNat : Int)] 5)) W.heap.size b ps) := by
          obtain ⟨h1, h2, r, h3, h4⟩ := hwr
          exact ⟨h1, by simp; omega, r, h3, h4.keeps (S := fun _ => False) ((Keeps.refl _ _).alloc _) id (fun _ _ => id)⟩
        clear hts hcv
        go_wp2
        go_roundw
        case rel => exact ⟨k + 1, by omega, by go_num, by rw [HTS.out, strOf_append], hsz.out, hwz.out⟩
        case measure => simp [intOf]; omega
      · have hts : hs'.take k = hs' := List.take_of_length_le (by rw [hH.out]; omega)
        rw [hts]
        clear hts
        go_wp2_with (first
          | (go_at_call 11; refine (wrNum_nil _ _ _).mono ?_; rintro e w7 ⟨rfl, rfl⟩)
          | (go_at_call 12; refine (wrBytes_nil _ _ _ hlc (by omega) _).mono ?_; rintro e w7 ⟨rfl, rfl⟩))
        have hps : numB x m ++ (nb (bs.length : Int) 2 ++ (bs ++ (bs ++ hs'))) = ps := by
          rw [← HPS.out]
          simp only [List.append_assoc]
        have hn2 : (nb (bs.length : Int) 2).length ≤ 2 := by rw [nb_length]; omega
        have hh32 : hs'.length ≤ 32 := by rw [hH.out]; omega
        have e1 : ∀ V : World, (Op.stringOp .add (strOf (numB x m)) (strOf (nb (bs.length : Int) 2 ++ bs))).run Try.prog V = .ok (.string (strOf (numB x m ++ (nb (bs.length : Int) 2 ++ bs)))) V := fun V => by
          rw [run_string_add_sum V _ _ (by simp only [strOf_size, List.length_append]; omega), strOf_append]
        have e2 : ∀ V : World, (Op.stringOp .add (strOf (numB x m ++ (nb (bs.length : Int) 2 ++ bs))) (strOf bs)).run Try.prog V = .ok (.string (strOf (numB x m ++ (nb (bs.length : Int) 2 ++ (bs ++ bs))))) V := fun V => by
          rw [run_string_add_sum V _ _ (by simp only [strOf_size, List.length_append]; omega), strOf_append, List.append_assoc, List.append_assoc]
        have e3 : ∀ V : World, (Op.stringOp .add (strOf (numB x m ++ (nb (bs.length : Int) 2 ++ (bs ++ bs)))) (strOf hs')).run Try.prog V = .ok (.string (strOf ps)) V := fun V => by
          rw [run_string_add_sum V _ _ (by simp only [strOf_size, List.length_append]; omega), strOf_append, ← hps, List.append_assoc, List.append_assoc, List.append_assoc]
        clear hps
        have a0 := run_string_src (P := Try.prog) wr.drew 23 9 5 Try.underlying23 Try.underlying5 Try.underlying9 A bs cap (hsW.later hbl.drew)
        have HB : Hid (Below W.heap.size W wr.drew) := hbl.drew
        have HW : Hid (WrB wr.drew W.heap.size b ps) := hwr
        have HA := Lib.hid hsW
        clear hbl hwr hsW HBK hcm hlc
        go_region_held3 (fun w' => (convert 23 9 (.slice A bs.length cap)).run Try.prog w' = .ok (.string (strOf bs)) w') (first | exact ⟨a9, o9⟩ | exact ⟨a8, o8⟩ | exact ⟨a7, o7⟩ | exact a0) (first
          | (go_at_call 15; first
              | ((with_reducible refine (wrOut_nil _).mono ?_); rintro e wx ⟨rfl, rfl⟩)
              | ((with_reducible refine (wrOutB W.heap.size b ps _ HW.out (by omega)).mono ?_); rintro e w7 ⟨A7, c7, rfl, hown7, k7⟩; have b7 : Below W.heap.size W w7 := HB.out.trans (k7.below HW.out.2.1 (fun _ _ => id)); have q7 := Src.of_own hown7; have o7 := run_string_src (P := Try.prog) w7 23 9 5 Try.underlying23 Try.underlying5 Try.underlying9 A7 ps c7 q7; have a7 := run_string_src (P := Try.prog) w7 23 9 5 Try.underlying23 Try.underlying5 Try.underlying9 A bs cap (HA.out.later b7); have Q7 := Lib.hid q7; have B7 := Lib.hid b7; clear hown7 k7 b7 q7; rw [shut_eq (fun w' => (convert 23 9 (.slice A bs.length cap)).run Try.prog w' = .ok (.string (strOf bs)) w') (fun w' => (convert 23 9 (.slice A bs.length cap)).run Try.prog w' = .ok (.string (strOf bs)) w' ∧ (convert 23 9 (.slice A7 ps.length c7)).run Try.prog w' = .ok (.string (strOf ps)) w') (fun _ h => h.1) (by with_reducible assumption)] at *))
          | (go_at_call 16; refine (refNum_any x m _ hx.1 (by omega)).mono ?_; rintro e w8 ⟨rfl, k8⟩; have B8 : Hid (Below W.heap.size W w8) := B7.out.trans (k8.mono B7.out.size); have Q8 : Hid (Src w8 A7 (bvs ps)) := Q7.out.later k8; have o8 := run_string_src (P := Try.prog) w8 23 9 5 Try.underlying23 Try.underlying5 Try.underlying9 A7 ps c7 Q8.out; have a8 := run_string_src (P := Try.prog) w8 23 9 5 Try.underlying23 Try.underlying5 Try.underlying9 A bs cap (HA.out.later B8.out); clear k8)
          | (go_at_call 17; refine (refBytes_any bs _ hlen).mono ?_; rintro e w9 ⟨rfl, k9⟩; have B9 : Hid (Below W.heap.size W w9) := B8.out.trans (k9.mono B8.out.size); have Q9 : Hid (Src w9 A7 (bvs ps)) := Q8.out.later k9; have o9 := run_string_src (P := Try.prog) w9 23 9 5 Try.underlying23 Try.underlying5 Try.underlying9 A7 ps c7 Q9.out; have a9 := run_string_src (P := Try.prog) w9 23 9 5 Try.underlying23 Try.underlying5 Try.underlying9 A bs cap (HA.out.later B9.out); clear k9))
        all_goals
          go_wp2
          go_ret
          exact ⟨rfl, HFIN.out _ B9.out⟩
  · go_enter Try.func3, Try.ntmps3
    go_wp2_with fail
    refine AW.out.mono ?_
    rintro e w1 ⟨rfl, k1⟩
    go_wp2
    go_ret
    exact ⟨rfl, KB.out.trans (k1.mono (by simp))⟩
theorem puts_all (x m : Int) (A : Option Addr) (len cap : Nat) (zs : List Int) (hs' : List UInt8) (w : World) (hxw : (Lit.int .u64 x).wf = true) (hmw : (Lit.int .i64 m).wf = true) (hr : IsRowU .u8 w A len cap zs) (hh : hs'.length = 32) :
    Calls Try.prog 3 #[.int .u64 x, .int .i64 m, .slice A len cap, .agg (bvs hs').toArray] w fun e w' => e = .returned (.bool true) ∧ Below w.heap.size w w' :=
  puts_walk x m A len cap zs hs' w hxw hr hh
end Go.Proofs.Ytgbdedkbkagndaa
