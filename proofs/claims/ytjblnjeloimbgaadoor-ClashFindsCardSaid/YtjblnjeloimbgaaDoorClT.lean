/-
  Two entries of one narrow hash are found (pair).
-/
import Derived.Test.YtjblnjeloimbgaaDoorClK
import Derived.Laws.MakeOwn
namespace Go.Proofs.YtjblnjeloimbgaaDoor
namespace Cl
/-- The entry of a number. -/
def pb (fr : UInt8) (i : Nat) : Bytes := [fr, UInt8.ofNat i, UInt8.ofNat (i / 256)]
/-- What counts of its hash. -/
def hv (fr : UInt8) (i : Nat) : Nat := ((Sh.sha (0 :: pb fr i)).getD 0 0).toNat
theorem hv_lt (fr : UInt8) (i : Nat) : hv fr i < 256 := UInt8.toNat_lt _
/-- What has been seen. -/
def tbl (fr : UInt8) : Nat → List Int
  | 0 => List.replicate 256 0
  | i + 1 => (tbl fr i).set (hv fr i) ((i : Int) + 1)
theorem tbl_length (fr : UInt8) (i : Nat) : (tbl fr i).length = 256 := by
  induction i with
  | zero => show (List.replicate 256 (0 : Int)).length = 256; rw [List.length_replicate]
  | succ i ih => show ((tbl fr i).set _ _).length = 256; rw [List.length_set, ih]
theorem tbl_at (fr : UInt8) (i v : Nat) (hv' : v < 256) : (tbl fr i).getD v 0 = 0 ∧ (∀ k, k < i → hv fr k ≠ v) ∨ ∃ k, k < i ∧ hv fr k = v ∧ (tbl fr i).getD v 0 = (k : Int) + 1 := by
  induction i with
  | zero => exact .inl ⟨by show (List.replicate 256 (0 : Int)).getD v 0 = 0; rw [List.getD_eq_getElem?_getD, List.getElem?_replicate, if_pos hv']; rfl, fun k hk => by omega⟩
  | succ i ih =>
    show ((tbl fr i).set (hv fr i) ((i : Int) + 1)).getD v 0 = 0 ∧ _ ∨ _
    by_cases e : hv fr i = v
    · refine .inr ⟨i, by omega, e, ?_⟩
      show ((tbl fr i).set (hv fr i) ((i : Int) + 1)).getD v 0 = _
      rw [List.getD_eq_getElem?_getD, List.getElem?_set, if_pos e, if_pos (by rw [tbl_length]; omega)]
      rfl
    · have hg : ((tbl fr i).set (hv fr i) ((i : Int) + 1)).getD v 0 = (tbl fr i).getD v 0 := by
        rw [List.getD_eq_getElem?_getD, List.getElem?_set, if_neg e, List.getD_eq_getElem?_getD]
      rcases ih with ⟨h1, h2⟩ | ⟨k, h1, h2, h3⟩
      · exact .inl ⟨hg.trans h1, fun k hk => by
          by_cases hki : k = i
          · subst hki; exact e
          · exact h2 k (by omega)⟩
      · exact .inr ⟨k, by omega, h2, hg.trans h3⟩
def nz (l : List Int) : Nat := l.countP (fun x => decide (x ≠ 0))
theorem nz_set : ∀ (l : List Int) (j : Nat) (x : Int), l[j]? = some 0 → x ≠ 0 → nz (l.set j x) = nz l + 1
  | [], _, _, h, _ => by simp at h
  | y :: l, 0, x, h, hx => by
    simp only [List.getElem?_cons_zero, Option.some.injEq] at h
    subst h
    simp [nz, hx]
  | y :: l, j + 1, x, h, hx => by
    have := nz_set l j x (by simpa using h) hx
    unfold nz at this ⊢
    rw [List.set_cons_succ, List.countP_cons, List.countP_cons, this]
    omega
/-- So many have been seen, each with a hash of its own. -/
def Apart (fr : UInt8) (i : Nat) : Prop := ∀ a b, a < b → b < i → hv fr a ≠ hv fr b
theorem nz_zero : ∀ m, nz (List.replicate m 0) = 0
  | 0 => rfl
  | m + 1 => by rw [List.replicate_succ]; unfold nz; rw [List.countP_cons]; have := nz_zero m; unfold nz at this; rw [this]; rfl
theorem tbl_nz (fr : UInt8) : ∀ i, Apart fr i → nz (tbl fr i) = i
  | 0, _ => nz_zero 256
  | i + 1, h => by
    have ih := tbl_nz fr i (fun a b h1 h2 => h a b h1 (by omega))
    show nz ((tbl fr i).set (hv fr i) ((i : Int) + 1)) = _
    rw [nz_set, ih]
    · rcases tbl_at fr i (hv fr i) (hv_lt fr i) with ⟨h1, _⟩ | ⟨k, h1, h2, _⟩
      · rw [List.getElem?_eq_getElem (by rw [tbl_length]; exact hv_lt fr i)]
        rw [List.getD_eq_getElem?_getD, List.getElem?_eq_getElem (by rw [tbl_length]; exact hv_lt fr i)] at h1
        exact congrArg some h1
      · exact absurd h2 (h k i h1 (by omega))
    · omega
theorem apart_le (fr : UInt8) (i : Nat) (h : Apart fr i) : i ≤ 256 := by
  have h1 := tbl_nz fr i h
  have h2 : nz (tbl fr i) ≤ (tbl fr i).length := List.countP_le_length
  rw [h1, tbl_length] at h2
  exact h2
end Cl
open Go.RowKit Go.BigFrame
set_option linter.unusedVariables false

theorem pb_vals (fr : UInt8) (i : Nat) (hi : i ≤ 300) : bvs (Cl.pb fr i) = [.int .u8 (fr.toNat : Int), .int .u8 ((i : Int) % 256), .int .u8 ((i : Int) / 256)] := by
  unfold Cl.pb bvs bv
  simp only [List.map_cons, List.map_nil]
  have e1 : (((UInt8.ofNat i).toNat : Nat) : Int) = (i : Int) % 256 := by rw [UInt8.toNat_ofNat']; omega
  have e2 : (((UInt8.ofNat (i / 256)).toNat : Nat) : Int) = (i : Int) / 256 := by rw [UInt8.toNat_ofNat']; omega
  rw [e1, e2]
theorem info_int : (Tryd.prog.info? 3).map (fun i => (i.zero, i.size, i.bytes)) = some (some (.int .i64 0), 1, 8) := by kernel_rfl
def ivs (l : List Int) : List Value := l.map (Value.int .i64)
theorem ivs_get (l : List Int) (i : Nat) : (ivs l)[i]? = l[i]?.map (Value.int .i64) := by simp [ivs]
theorem ivs_set (l : List Int) (i : Nat) (x : Int) : (ivs l).set i (.int .i64 x) = ivs (l.set i x) := by simp [ivs, List.map_set]
set_option maxRecDepth 100000 in
set_option maxHeartbeats 2000000 in
theorem pair_any (fr : UInt8) (w : World) (hT : Tabs w) :
    Calls Tryd.prog 12 #[.int .i64 1, .int .u8 (fr.toNat : Int)] w fun e w' => ∃ (k i : Nat) (A B : Option Addr), k < i ∧ i < 300 ∧ Cl.hv fr k = Cl.hv fr i ∧ Cl.Apart fr i ∧ e = .returned (.tuple #[.slice A 3 3, .slice B 3 3, .bool true]) ∧ Src w' A (bvs (Cl.pb fr k)) ∧ Src w' B (bvs (Cl.pb fr i)) ∧ Keeps (fun _ => False) w w' := by
  obtain ⟨Z, hZ, hz, hzs⟩ := zero_hash
  have HT := Lib.hid hT
  have HZS := Lib.hid hzs
  obtain ⟨i0, hi0, hi1, hi2, hi3⟩ := info_parts info_int
  have hmk : ∀ W : World, (Instr.makeSlice 58 (.int .i64 256) (.int .i64 256)).run Tryd.prog W = .ok (.slice (some ⟨W.heap.size, 0, none⟩) 256 256) (W.alloc (.cells (ivs (List.replicate 256 0)).toArray 3)) := fun W => by
    have h := run_makeSlice (P := Tryd.prog) W 58 3 i0 (.int .i64 0) Tryd.underlying58 hi0 hi1 .i64 .i64 256 256 (by omega) (by omega) (by rw [hi2]; decide) (by rw [hi3]; decide) (by omega)
    rw [hi2] at h
    exact h.trans (by rw [show madeCells (Value.int .i64 0).cells ((256 : Int).toNat * 1) = (ivs (List.replicate 256 0)).toArray by kernel_rfl]; rfl)
  have hw1 : Cl.wid 1 = 1 := by decide
  obtain ⟨g, hg⟩ : ∃ g, w.heap.size = g := ⟨_, rfl⟩
  obtain ⟨T0, hT0⟩ : ∃ T, (ivs (List.replicate 256 0)).toArray = T := ⟨_, rfl⟩
  rw [hT0] at hmk
  obtain ⟨W1, hW1⟩ : ∃ V, w.alloc (.cells T0 3) = V := ⟨_, rfl⟩
  have K1 : Hid (Keeps (fun k => g ≤ k) w W1) := Lib.hid (by rw [← hW1]; exact (Keeps.refl _ _).alloc _)
  have R1 : Hid (Row W1 g 3 (ivs (Cl.tbl fr 0))) := Lib.hid (by show W1.heap[g]? = some (.cells (ivs (List.replicate 256 0)).toArray _ _); rw [hT0, ← hW1, ← hg]; exact heap_alloc_new w _)
  have HG : Hid (2 < g) := Lib.hid (by rw [← hg]; exact hT.lt)
  clear hZ hzs hT hi0 hi1 hi2 hi3 hT0
  go_enter Tryd.func12, Tryd.ntmps12
  go_wp2_with fail
  go_loopw [8] (fun v wr => ∃ i : Nat, i ≤ 300 ∧ v = .int .i64 (i : Int) ∧ Hid (Cl.Apart fr i) ∧ Hid (Row wr g 3 (ivs (Cl.tbl fr i))) ∧ Hid (Keeps (fun k => g ≤ k) w wr)) (fun v _ => 300 - (intOf v).toNat)
  case atStart => exact ⟨0, by omega, rfl, Lib.hid (fun a b h1 h2 => by omega), R1, K1⟩
  case round =>
    clear R1 K1
    obtain ⟨i, hi, rfl, HA, HR, HK⟩ := hrel
    have hi256 := Cl.apart_le fr i HA.out
    have hi3 : (i : Int) < 300 := by omega
    -- the entry, its hash
    obtain ⟨gb, hgb⟩ : ∃ q, wr.heap.size = q := ⟨_, rfl⟩
    have hbv := pb_vals fr i hi
    obtain ⟨W2, hW2⟩ : ∃ V, wr.alloc (.cells #[.int .u8 (fr.toNat : Int), .int .u8 ((i : Int) % 256), .int .u8 ((i : Int) / 256)] 5) = V := ⟨_, rfl⟩
    have k2 : Keeps (fun _ => False) wr W2 := by rw [← hW2]; exact (Keeps.refl _ _).alloc _
    have r2 : Row W2 gb 5 (bvs (Cl.pb fr i)) := by rw [hbv, ← hW2, ← hgb]; exact heap_alloc_new wr _
    have hTr : Tabs wr := HT.out.keeps HK.out (by have := HG.out; omega) (by have := HG.out; omega)
    have hleaf := leaf_any (some ⟨gb, 0, none⟩) 3 (Cl.pb fr i) W2 (hTr.keeps k2 id id) (src_new r2) (by show 3 ≤ 3; omega) (by omega) (by show 3 ≤ 99999999; omega)
    rw [show (Cl.pb fr i).length = 3 from rfl] at hleaf
    have hcut := fun V => cut_any 1 (Sh.sha (0 :: Cl.pb fr i)) rfl V
    rw [hw1] at hcut
    have hcl : (Cl.cut 1 (Sh.sha (0 :: Cl.pb fr i))).length = 32 := Cl.cut_length _ _
    obtain ⟨s1, z1, o1⟩ := arr_hash _ hcl
    have h0 : (bvs (Cl.cut 1 (Sh.sha (0 :: Cl.pb fr i))))[0]? = some (.int .u8 ((Cl.hv fr i : Nat) : Int)) := by
      rw [bvs_get, Cl.cut_get 1 _ 0 (by show 0 < 32; omega)]
      rfl
    obtain ⟨RC, hRC⟩ : ∃ R, bvs (Cl.cut 1 (Sh.sha (0 :: Cl.pb fr i))) = R := ⟨_, rfl⟩
    obtain ⟨RS, hRS⟩ : ∃ R, (bvs (Sh.sha (0 :: Cl.pb fr i))).toArray = R := ⟨_, rfl⟩
    rw [hRC] at hcut s1 z1 o1 h0
    rw [hRS] at hleaf hcut
    have HLEAF := Lib.hid hleaf
    have HCUT := Lib.hid hcut
    have S1 := Lib.hid s1
    have Z1 := Lib.hid (HZS.out.trans z1.symm)
    have O1 := Lib.hid o1
    have HH0 := Lib.hid h0
    have R2 := Lib.hid r2
    have K2 := Lib.hid k2
    have HTB := Lib.hid (Cl.tbl_at fr i (Cl.hv fr i) (Cl.hv_lt fr i))
    have HLT := Cl.hv_lt fr i
    obtain ⟨h, hh⟩ : ∃ h, Cl.hv fr i = h := ⟨_, rfl⟩
    rw [hh] at HH0 HTB HLT
    have HHV := Lib.hid hh
    obtain ⟨x, hx⟩ : ∃ x, (Cl.tbl fr i).getD h 0 = x := ⟨_, rfl⟩
    rw [hx] at HTB
    have hxg : (ivs (Cl.tbl fr i))[h]? = some (.int .i64 x) := by
      rw [ivs_get, List.getElem?_eq_getElem (by rw [Cl.tbl_length]; exact HLT)]
      rw [List.getD_eq_getElem?_getD, List.getElem?_eq_getElem (by rw [Cl.tbl_length]; exact HLT)] at hx
      exact congrArg (fun y => some (Value.int .i64 y)) hx
    have HXG := Lib.hid hxg
    clear hleaf hcut s1 z1 o1 h0 hRC hRS r2 k2 hcl hbv hTr hh hx hxg
    go_wp2_with fail
    refine HLEAF.out.mono ?_
    rintro e w3 ⟨rfl, k3⟩
    go_wp2_with fail
    refine (HCUT.out _).mono ?_
    rintro e w4 ⟨rfl, k4⟩
    obtain ⟨gc, hgc⟩ : ∃ q, w4.heap.size = q := ⟨_, rfl⟩
    obtain ⟨W5, hW5⟩ : ∃ V, w4.alloc (.cells Z 26) = V := ⟨_, rfl⟩
    obtain ⟨W6, hW6⟩ : ∃ V, W5.setRow gc RC.toArray = V := ⟨_, rfl⟩
    have k5 : Keeps (fun _ => False) w4 W5 := by rw [← hW5]; exact (Keeps.refl _ _).alloc _
    have r5 : W5.heap[gc]? = some (.cells Z 26 (0, 0)) := by rw [← hW5, ← hgc]; exact heap_alloc_new w4 _
    have k6 : Keeps (fun k => k = gc) W5 W6 := by rw [← hW6]; exact Keeps.setRow _ _
    have r6 : Row W6 gc 26 RC := by rw [← hW6]; exact setRow_heap _ _ _ _ _ _ r5
    have k26 : Keeps (fun _ => False) W2 W6 := ((k3.trans k4).trans k5).trans' k6 (fun i hi e => by have := (k3.trans k4).size; omega)
    have kr6 : Keeps (fun _ => False) wr W6 := K2.out.trans k26
    have hr6 := HR.out.keeps kr6 id
    have c1 : W6.cell? ⟨gc, 0, none⟩ = some (.int .u8 (h : Int)) := by rw [r6.cell]; exact HH0.out
    have c2 : W6.cell? ⟨g, h, none⟩ = some (.int .i64 x) := by rw [hr6.cell]; exact HXG.out
    have f2 : W6.frozen? ⟨g, h, none⟩ = false := hr6.frozen h
    have R5 := Lib.hid r5
    have R26 := Lib.hid (R2.out.keeps k26 id)
    have K6 := Lib.hid (HK.out.trans (kr6.mono (fun _ _ h => h.elim)))
    have HR6 := Lib.hid hr6
    have hh256 : (h : Int) < 256 := by omega
    clear k3 k4 k5 r5 k6 r6 k26 kr6 hr6 HLEAF HCUT R2 K2 HR HK HH0 HXG
    rcases HTB.out with ⟨hx0, hno⟩ | ⟨k, hki, hkh, hxk⟩
    · subst hx0
      have HNO := Lib.hid hno
      clear hno HTB
      go_wp2_with (refine wpList_store_row rfl 26 _ _ rfl gc RC.toArray rfl rfl 26 Z R5.out S1.out Z1.out O1.out ?_; rw [hW6])
      go_roundw
      case rel =>
        refine ⟨i + 1, by omega, by go_num, Lib.hid (fun a b h1 h2 => ?_), Lib.hid ?_, Lib.hid (K6.out.setCell (p := ⟨g, h, none⟩) (fun _ => Nat.le_refl _) _)⟩
        · by_cases hb : b = i
          · subst hb
            rw [HHV.out]
            exact HNO.out a h1
          · exact HA.out a b h1 (by omega)
        · have := HR6.out.set h (.int .i64 ((i : Int) + 1))
          rw [ivs_set] at this
          show Row _ _ _ (ivs ((Cl.tbl fr i).set (Cl.hv fr i) ((i : Int) + 1)))
          rw [HHV.out]
          exact this
      case measure => simp [intOf]; omega
    · subst hxk
      have hk1 : (0 : Int) < (k : Int) + 1 := by omega
      have hk2 : (k : Int) + 1 ≤ 300 := by omega
      have HKH := Lib.hid hkh
      have hbv2 := pb_vals fr k (by omega)
      rw [show (k : Int) % 256 = k by omega] at hbv2
      obtain ⟨gd, hgd⟩ : ∃ q, W6.heap.size = q := ⟨_, rfl⟩
      obtain ⟨W7, hW7⟩ : ∃ V, W6.alloc (.cells #[.int .u8 (fr.toNat : Int), .int .u8 (k : Int), .int .u8 ((k : Int) / 256)] 5) = V := ⟨_, rfl⟩
      have k7 : Keeps (fun _ => False) W6 W7 := by rw [← hW7]; exact (Keeps.refl _ _).alloc _
      have r7 : Row W7 gd 5 (bvs (Cl.pb fr k)) := by rw [hbv2, ← hW7, ← hgd]; exact heap_alloc_new W6 _
      have R7 := Lib.hid r7
      have R27 := Lib.hid (R26.out.keeps k7 id)
      have K7 := Lib.hid (K6.out.trans (k7.mono (fun _ _ h => h.elim)))
      clear k7 r7 hbv2 hkh HTB
      go_wp2_with (refine wpList_store_row rfl 26 _ _ rfl gc RC.toArray rfl rfl 26 Z R5.out S1.out Z1.out O1.out ?_; rw [hW6])
      refine bodyPost_ret (results_tmp3 rfl _ _ _) rfl ?_
      exact ⟨k, i, _, _, hki, by omega, by rw [HKH.out, HHV.out], HA.out, rfl, src_new R7.out, src_new R27.out, K7.out.mono (fun i hi e => by omega)⟩
end Go.Proofs.YtjblnjeloimbgaaDoor
