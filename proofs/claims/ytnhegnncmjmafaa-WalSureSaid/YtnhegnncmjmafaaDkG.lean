/-
  Disks: what is loose is for good; the disk begins anew. WRITTEN BY wip/gen/mkdkg.py.
-/
import Derived.Test.YtnhegnncmjmafaaDkF
namespace Go.Proofs.Ytnhegnncmjmafaa
open Go.RowKit Go.BigFrame
set_option linter.unusedVariables false

theorem zero_write (w : World) : (zeroValue 80).run Try.prog w = .ok (.agg ((Value.int .i64 0) :: List.replicate 256 (Value.int .u8 0)).toArray) w := by kernel_rfl
theorem slice_first (V : World) (A : Option Addr) (n c m : Nat) (hc : m ≤ c) (hA : A = none → c = 0) : (Instr.sliceAt 57 (.slice A n c) none (some (.int .i64 (m : Int))) none).run Try.prog V = .ok (.slice A m c) V := by
  have hu : Try.prog.underlying 57 = some (.slice (Try.prog.elem 57)) := by kernel_rfl
  obtain ⟨sz, hs⟩ : ∃ sz, ∀ V, (sizeOf (Try.prog.elem 57)).run Try.prog V = .ok sz V := ⟨257, fun V => by kernel_rfl⟩
  rw [run_sliceAt_slice V 57 _ _ _ _ hu, run_slice_h (P := Try.prog) V 57 A n c hu .i64 (m : Int) (by omega) (by omega), hs]
  have hz : ∀ a : Addr, a.add 0 = a := fun a => by cases a; rfl
  have e : (if c = 0 then A else A.map (·.add 0)) = A := by
    split
    · rfl
    · cases A with
      | none => rfl
      | some a => simp [hz]
  simp only [Result.andThen, sliced, Nat.zero_mul, Int.toNat_natCast, Nat.sub_zero, e]
theorem min_two (w : World) (ts : Array TypeId) (t : TypeId) (a b n : Nat) (h : min a b = n) : (Builtin.min_ ts t #[.int .i64 (a : Int), .int .i64 (b : Int)]).run Try.prog w = .ok (.int .i64 (n : Int)) w := by
  have e : (if (b : Int) < (a : Int) then (b : Int) else (a : Int)) = (n : Int) := by
    split <;> omega
  rw [← e]
  simp [Builtin.min_, Builtin.min2]
theorem sync_none (w : World) : Calls Try.prog 35 #[.pointer none] w fun e w' => e = .returned (.int .i64 1) ∧ w' = w := by
  have hup := up_none w
  have HUP := Lib.hid hup
  clear hup
  go_enter Try.func35, Try.ntmps35
  go_wp2_with fail
  refine HUP.out.mono ?_
  rintro e w1 ⟨rfl, h1⟩
  obtain rfl : w = w1 := h1.symm
  go_wp2
  go_ret
  exact ⟨rfl, rfl⟩
theorem sync_dead (w : World) (F : Nat → Prop) (g : Nat) (s : Dk.St) (h : DskAt w F g s) (hd : s.dead = true) : Calls Try.prog 35 #[.pointer (some ⟨g, 0, none⟩)] w fun e w' => e = .returned (.int .i64 30) ∧ w' = w := by
  have hup := up_any w F g s h
  unfold Dk.upE at hup
  rw [hd, if_pos rfl] at hup
  have HUP := Lib.hid hup
  clear hup h hd
  go_enter Try.func35, Try.ntmps35
  go_wp2_with fail
  refine HUP.out.mono ?_
  rintro e w1 ⟨rfl, h1⟩
  obtain rfl : w = w1 := h1.symm
  go_wp2
  go_ret
  exact ⟨rfl, rfl⟩
theorem sync_down (w : World) (F : Nat → Prop) (g : Nat) (s : Dk.St) (h : DskAt w F g s) (hd : s.dead = false) (hg : Dk.goes s = false) : Calls Try.prog 35 #[.pointer (some ⟨g, 0, none⟩)] w fun e w' => e = .returned (.int .i64 30) ∧ DskAt w' F g (Dk.cnt s) ∧ Keeps (fun k => k = g) w w' := by
  have hup := up_any w F g s h
  unfold Dk.upE at hup
  rw [hd, if_neg (by decide)] at hup
  have hco := count_any w F g s h
  have hce : Dk.cntE s = 30 := by unfold Dk.cntE; rw [hg]; rfl
  rw [hce] at hco
  have HUP := Lib.hid hup
  have HCO := Lib.hid hco
  clear hup h hd hco hce hg
  go_enter Try.func35, Try.ntmps35
  go_wp2_with fail
  refine HUP.out.mono ?_
  rintro e w1 ⟨rfl, h1⟩
  obtain rfl : w = w1 := h1.symm
  go_wp2_with fail
  refine HCO.out.mono ?_
  rintro e w1 ⟨rfl, hd, hk⟩
  go_wp2
  go_ret
  exact ⟨rfl, hd, hk⟩
set_option maxRecDepth 100000 in
set_option maxHeartbeats 4000000 in
theorem sync_ok (w : World) (F : Nat → Prop) (g : Nat) (s : Dk.St) (h : DskAt w F g s) (hF : ∀ k, w.heap.size ≤ k → F k) (hd : s.dead = false) (hg : Dk.goes s = true) (hn : s.loose.length ≤ 1000) :
    Calls Try.prog 35 #[.pointer (some ⟨g, 0, none⟩)] w fun e w' => e = .returned (.int .i64 0) ∧ DskAt w' F g { Dk.cnt s with good := Dk.over s.good s.loose, loose := [] } ∧ Keeps F w w' := by
  have hup := up_any w F g s h
  unfold Dk.upE at hup
  rw [hd, if_neg (by decide)] at hup
  have hco := count_any w F g s h
  have hce : Dk.cntE s = 0 := by unfold Dk.cntE; rw [hg]; rfl
  rw [hce] at hco
  have hcl := Dk.cnt_loose s
  have hcg := Dk.cnt_good s
  obtain ⟨s1, hs1⟩ : ∃ s1, Dk.cnt s = s1 := ⟨_, rfl⟩
  rw [hs1] at hco hcl hcg ⊢
  rw [← hcl] at hn ⊢
  rw [← hcg]
  obtain ⟨ZW, hZW⟩ : ∃ Z, ((Value.int .i64 0) :: List.replicate 256 (Value.int .u8 0)).toArray = Z := ⟨_, rfl⟩
  have hzs : ZW.size = 257 := by rw [← hZW, List.size_toArray, List.length_cons, List.length_replicate]
  have hz : ∀ V : World, (zeroValue 80).run Try.prog V = .ok (.agg ZW) V := fun V => by rw [← hZW]; exact zero_write V
  have HZ := Lib.hid hz
  have HZS := Lib.hid hzs
  have HUP := Lib.hid hup
  have HCO := Lib.hid hco
  have HF := Lib.hid hF
  clear hup h hd hco hce hg hcl hcg hs1 hz hzs hZW hF
  go_enter Try.func35, Try.ntmps35
  go_wp2_with fail
  refine HUP.out.mono ?_
  rintro e w1 ⟨rfl, h1⟩
  obtain rfl : w = w1 := h1.symm
  go_wp2_with fail
  refine HCO.out.mono ?_
  rintro e w1 ⟨rfl, hd1, hk1⟩
  obtain ⟨gb, lb, A, c, gf, lf, hD⟩ := hd1
  obtain ⟨n, hnn⟩ : ∃ n, s1.loose.length = n := ⟨_, rfl⟩
  have c2 : w1.cell? ⟨g, 2, none⟩ = some (.slice A n c) := by rw [← hnn]; exact hD.row.cell 2
  have HD := Lib.hid hD
  have HN := Lib.hid hnn
  rw [hnn] at hn
  have HK1 := Lib.hid hk1
  clear hD hk1 hnn HUP HCO
  go_wp2_with fail
  go_loopw [22] (fun iv wr => ∃ (i : Nat) (gf' : Int → Option Value), i ≤ n ∧ iv = .int .i64 (i : Int) ∧ Hid (Dsk wr F g { s1 with good := Dk.over s1.good (s1.loose.take i) } gb lb A c gf' lf) ∧ Hid (Keeps (fun k => k = gb) w1 wr)) (fun iv _ => n - (intOf iv).toNat)
  case atStart => exact ⟨0, gf, by omega, rfl, Lib.hid (by rw [List.take_zero]; exact HD.out), Lib.hid (Keeps.refl _ _)⟩
  case round =>
    obtain ⟨i, gf', hi, rfl, HDr, HKr⟩ := hrel
    by_cases hlt : i < n
    · have hii : (i : Int) < (n : Int) := by omega
      obtain ⟨gr, hA⟩ : ∃ gr, A = some ⟨gr, 0, none⟩ := by
        rcases HD.out.own.2 with ⟨h1, _⟩ | ⟨gr, cap, cur, h1, _⟩
        · injection h1 with _ h2; have := HN.out; omega
        · injection h1 with h1; exact ⟨gr, h1⟩
      subst hA
      obtain ⟨p, hp⟩ : ∃ p, s1.loose[i]? = some p := ⟨_, List.getElem?_eq_getElem (by have := HN.out; omega)⟩
      have hpm := HD.out.ok.loose p (List.mem_of_getElem? hp)
      obtain ⟨WC, hWC⟩ : ∃ L, wcells p = L := ⟨_, rfl⟩
      have hwl : WC.length = 257 := by rw [← hWC]; exact wcells_length p hpm.2
      have hrg : wr.rangeAt gr (i * 257) WC := fun j v hv => by
        have hh := flatW_get s1.loose i p j v (fun q hq => (HD.out.ok.loose q hq).2) hp (by rw [hWC]; exact hv)
        have := HDr.out.own.cells (g := gr) rfl _ _ hh
        simpa [add_plain] using this
      obtain ⟨W1, hW1⟩ : ∃ W, wr.alloc (.cells ZW 80) = W := ⟨_, rfl⟩
      obtain ⟨W2, hW2⟩ : ∃ W, W1.setRow wr.heap.size WC.toArray = W := ⟨_, rfl⟩
      have k1 : Keeps (fun _ => False) wr W1 := by rw [← hW1]; exact (Keeps.refl _ _).alloc _
      have r1 : W1.heap[wr.heap.size]? = some (.cells ZW 80 (0, 0)) := by rw [← hW1]; exact heap_alloc_new wr _
      have R2 : Hid (W2.heap[wr.heap.size]? = some (.cells WC.toArray 80 (0, 0))) := Lib.hid (by rw [← hW2]; exact setRow_heap _ _ _ _ _ _ r1)
      have k2 : Keeps (fun _ => False) wr W2 := k1.trans' (T := fun k => k = wr.heap.size) (by rw [← hW2]; exact Keeps.setRow _ _) (fun i hi e => by omega)
      have R1 := Lib.hid r1
      have SW : Hid ((Try.prog.info? 80).map (·.size) = some WC.length) := Lib.hid (by rw [hwl]; exact size_write)
      have SW' : Hid ((Try.prog.info? 80).map (·.size) = some WC.toArray.size) := Lib.hid (by rw [List.size_toArray, hwl]; exact size_write)
      have ZWC : Hid (ZW.size = WC.toArray.size) := Lib.hid (HZS.out.trans (by rw [List.size_toArray, hwl]))
      have OWC : Hid (WC.toArray.all (·.oneCell') = true) := Lib.hid (by rw [← hWC, Array.all_eq_true_iff_forall_mem]; intro v hv; exact wcells_one p v (by simpa using hv))
      have HRG := Lib.hid hrg
      have D2 := HDr.out.later k2
      have hz := HZ.out
      have K2 := Lib.hid k2
      have HWC := Lib.hid hWC
      have HP := Lib.hid hp
      have HPM := Lib.hid hpm
      have hlay := lay_any W2 F g _ gb lb _ c gf' lf D2 p.1 p.2 256 hpm.2 (Nat.le_refl _)
      rw [show ((256 : Nat) : Int) = 256 from rfl, show (p.1, p.2) = p from rfl, hWC] at hlay
      have HLAY := Lib.hid hlay
      clear hp hpm hWC hwl hrg k1 r1 k2 D2 hlay
      go_wp2_with (first
        | (refine wpList_load_mid (by rfl) 80 (.tmp 24) (by rfl) gr (i * 257) (by rfl) WC _ HRG.out Try.underlying80 rfl SW.out ?_)
        | (refine wpList_store_row (by rfl) 80 _ _ rfl wr.heap.size WC.toArray rfl rfl 80 ZW R1.out SW'.out ZWC.out OWC.out ?_; rw [hW2])
        | (refine wpList_load_row rfl 80 _ rfl wr.heap.size rfl 80 WC.toArray (0, 0) _ R2.out Try.underlying80 rfl SW'.out ?_))
      refine HLAY.out.mono ?_
      rintro e w3 ⟨rfl, ⟨gf3, d3⟩, k3⟩
      have e3 : Dk.lay (Dk.over s1.good (s1.loose.take i)) p 256 = Dk.over s1.good (s1.loose.take (i + 1)) := (Dk.over_take _ _ _ _ HP.out HD.out.ok.good (fun q hq => (HD.out.ok.loose q hq).2)).symm
      have D3 : Hid (Dsk w3 F g { s1 with good := Dk.over s1.good (s1.loose.take (i + 1)) } gb lb _ c gf3 lf) := Lib.hid (by rw [← e3]; exact d3)
      have K3 : Hid (Keeps (fun k => k = gb) w1 w3) := Lib.hid ((HKr.out.trans' K2.out (fun _ _ h => h.elim)).trans' k3 (fun _ _ e => e))
      clear d3 k3 e3 HLAY R1 R2 SW SW' ZWC OWC HRG K2 HWC HP HPM HDr HKr hz
      go_wp2_with fail
      go_roundw
      case rel => exact ⟨i + 1, gf3, by omega, by go_num, D3, K3⟩
      case measure => simp [intOf]; omega
    · obtain rfl : i = n := by omega
      have hii : ¬ (i : Int) < (i : Int) := by omega
      have ht : s1.loose.take i = s1.loose := List.take_of_length_le (by have := HN.out; omega)
      have D := HDr.out
      rw [ht] at D
      have hkw : Keeps F w wr := (HK1.out.mono (fun k _ e => by subst e; exact HD.out.fg)).trans' HKr.out (fun k _ e => by subst e; exact HD.out.fgb)
      have hti := tighten_any wr F g _ ⟨_, _, _, _, _, _, D⟩ (fun k hk => HF.out k (by have := hkw.size; omega))
      have HTI := Lib.hid hti
      have HKW := Lib.hid hkw
      have HFG := Lib.hid HD.out.fg
      clear D ht hti hkw HDr HKr HK1
      go_wp2_with fail
      refine HTI.out.mono ?_
      rintro e w4 ⟨rfl, d4, k4⟩
      go_wp2
      go_ret
      exact ⟨rfl, d4, HKW.out.trans' k4 (fun k _ e => by subst e; exact HFG.out)⟩
theorem crash_none (w : World) (v : Value) : Calls Try.prog 18 #[.pointer none, v] w fun e w' => e = .returned (.tuple #[]) ∧ w' = w := by
  go_enter Try.func18, Try.ntmps18
  go_wp2
  refine bodyPost_ret (results_none rfl _ _ _) rfl ?_
  exact ⟨rfl, rfl⟩
set_option maxRecDepth 100000 in
set_option maxHeartbeats 4000000 in
theorem crash_any (w : World) (F : Nat → Prop) (g : Nat) (s1 : Dk.St) (h : DskAt w F g s1) (hF : ∀ k, w.heap.size ≤ k → F k) (hn : s1.loose.length ≤ 1000) (Af : Option Addr) (cf : Nat) (f : List UInt8) (hS : Src w Af (bvs f)) (hSF : ∀ a, Af = some a → 0 < f.length → ¬ F a.block) (hfl : f.length ≤ 9223372036854775807) :
    Calls Try.prog 18 #[.pointer (some ⟨g, 0, none⟩), .slice Af f.length cf] w fun e w' => e = .returned (.tuple #[]) ∧ DskAt w' F g { s1 with good := Dk.crash s1.good s1.loose f, loose := [], fails := false, dead := false } ∧ Keeps F w w' := by
  obtain ⟨gb, lb, A, c, gf, lf, hD⟩ := h
  obtain ⟨ZW, hZW⟩ : ∃ Z, ((Value.int .i64 0) :: List.replicate 256 (Value.int .u8 0)).toArray = Z := ⟨_, rfl⟩
  have hzs : ZW.size = 257 := by rw [← hZW, List.size_toArray, List.length_cons, List.length_replicate]
  have hz : ∀ V : World, (zeroValue 80).run Try.prog V = .ok (.agg ZW) V := fun V => by rw [← hZW]; exact zero_write V
  obtain ⟨n, hnn⟩ : ∃ n, s1.loose.length = n := ⟨_, rfl⟩
  obtain ⟨fl, hff⟩ : ∃ n, f.length = n := ⟨_, rfl⟩
  obtain ⟨m, hm⟩ : ∃ m, min fl n = m := ⟨_, rfl⟩
  obtain ⟨_, hnc, hcm⟩ := own_cap hD.own
  have hA0 : A = none → c = 0 := fun e => by
    rcases hD.own.2 with ⟨h1, _⟩ | ⟨gr, cap, cur, h1, _⟩
    · injection h1
    · injection h1 with h1; rw [e] at h1; cases h1
  rw [hnn] at hnc hn
  rw [hff] at hfl ⊢
  have HM2 : Hid (∀ V : World, (Builtin.min_ #[3, 3] 3 #[.int .i64 (fl : Int), .int .i64 (n : Int)]).run Try.prog V = .ok (.int .i64 (m : Int)) V) := Lib.hid (fun V => min_two V _ _ fl n m hm)
  have HS2 : Hid (∀ V : World, (Instr.sliceAt 57 (.slice A n c) none (some (.int .i64 (m : Int))) none).run Try.prog V = .ok (.slice A m c) V) := Lib.hid (fun V => slice_first V A n c m (by omega) hA0)
  have HC2 : Hid (∀ V, Later w V → V.cell? ⟨g, 2, none⟩ = some (.slice A n c)) := Lib.hid (fun V hV => by rw [← hnn]; exact (hD.row.keeps hV.out id).cell 2)
  have HZ := Lib.hid hz
  have HZS := Lib.hid hzs
  have HF := Lib.hid hF
  have HD := Lib.hid hD
  have HN := Lib.hid hnn
  have HFF := Lib.hid hff
  have HSS := Lib.hid hS
  have HSF := Lib.hid hSF
  have hmn : m ≤ n := by omega
  have hmf : m ≤ fl := by omega
  have HM := Lib.hid hm
  clear hz hzs hZW hF hD hnn hff hm hS hSF hA0
  go_enter Try.func18, Try.ntmps18
  go_wp2_with fail
  refine wp_region_class (Later w) (by kernel_rfl) (by kernel_rfl) (⟨(Keeps.refl _ _).drew⟩) ?_
  refine class_value (by rfl) (.pointer (some ⟨g, 0, none⟩)) (fun V hV => by go_simp) ?_
  simp only [Act.put, List.setIfInBounds_toArray, List.set_cons_zero, List.set_cons_succ]
  refine class_value (by rfl) (.pointer (some ⟨g, 0, none⟩)) (fun V hV => by go_simp) ?_
  simp only [Act.put, List.setIfInBounds_toArray, List.set_cons_zero, List.set_cons_succ]
  refine class_value (by rfl) (.pointer (some ⟨g, 2, none⟩)) (fun V hV => by go_simp) ?_
  simp only [Act.put, List.setIfInBounds_toArray, List.set_cons_zero, List.set_cons_succ]
  refine class_cell (by rfl) 57 (.tmp 11) (by rfl) ⟨g, 2, none⟩ (by rfl) (.slice A n c) _ (fun V hV => HC2.out V hV) Try.underlying57 rfl ?_
  simp only [Act.put, List.setIfInBounds_toArray, List.set_cons_zero, List.set_cons_succ]
  refine class_value (by rfl) (.slice Af fl cf) (fun V hV => by go_simp) ?_
  simp only [Act.put, List.setIfInBounds_toArray, List.set_cons_zero, List.set_cons_succ]
  refine class_value (by rfl) (.int .i64 (fl : Int)) (fun V hV => by go_simp) ?_
  simp only [Act.put, List.setIfInBounds_toArray, List.set_cons_zero, List.set_cons_succ]
  refine class_value (by rfl) (.pointer (some ⟨g, 0, none⟩)) (fun V hV => by go_simp) ?_
  simp only [Act.put, List.setIfInBounds_toArray, List.set_cons_zero, List.set_cons_succ]
  refine class_value (by rfl) (.pointer (some ⟨g, 0, none⟩)) (fun V hV => by go_simp) ?_
  simp only [Act.put, List.setIfInBounds_toArray, List.set_cons_zero, List.set_cons_succ]
  refine class_value (by rfl) (.pointer (some ⟨g, 2, none⟩)) (fun V hV => by go_simp) ?_
  simp only [Act.put, List.setIfInBounds_toArray, List.set_cons_zero, List.set_cons_succ]
  refine class_cell (by rfl) 57 (.tmp 17) (by rfl) ⟨g, 2, none⟩ (by rfl) (.slice A n c) _ (fun V hV => HC2.out V hV) Try.underlying57 rfl ?_
  simp only [Act.put, List.setIfInBounds_toArray, List.set_cons_zero, List.set_cons_succ]
  refine class_value (by rfl) (.int .i64 (n : Int)) (fun V hV => by go_simp) ?_
  simp only [Act.put, List.setIfInBounds_toArray, List.set_cons_zero, List.set_cons_succ]
  refine class_value (by rfl) (.int .i64 (m : Int)) (fun V hV => by have hm2 := HM2.out V; go_simp) ?_
  simp only [Act.put, List.setIfInBounds_toArray, List.set_cons_zero, List.set_cons_succ]
  refine class_value (by rfl) (.slice A m c) (fun V hV => by have hs2 := HS2.out V; go_simp) ?_
  simp only [Act.put, List.setIfInBounds_toArray, List.set_cons_zero, List.set_cons_succ]
  refine class_value (by rfl) (.int .i64 (m : Int)) (fun V hV => by go_simp) ?_
  simp only [Act.put, List.setIfInBounds_toArray, List.set_cons_zero, List.set_cons_succ]
  refine class_value (by rfl) (.int .i64 0) (fun V hV => by go_simp) ?_
  simp only [Act.put, List.setIfInBounds_toArray, List.set_cons_zero, List.set_cons_succ]
  refine wpQuiet_nil ?_
  intro w1 k1
  have HK1 : Hid (Keeps (fun _ => False) w w1) := Lib.hid k1.out
  have D1 := HD.out.later k1.out
  have HD1 := Lib.hid D1
  clear k1 D1 HM2 HS2 HC2
  go_wp2_with fail
  go_loopw [23] (fun iv wr => ∃ (i : Nat) (gf' : Int → Option Value), i ≤ m ∧ iv = .int .i64 (i : Int) ∧ Hid (Dsk wr F g { s1 with good := Dk.crash s1.good (s1.loose.take i) (f.take i) } gb lb A c gf' lf) ∧ Hid (Keeps (fun k => k = gb) w1 wr)) (fun iv _ => m - (intOf iv).toNat)
  case atStart => exact ⟨0, gf, by omega, rfl, Lib.hid (by rw [List.take_zero, List.take_zero]; exact HD1.out), Lib.hid (Keeps.refl _ _)⟩
  case round =>
    obtain ⟨i, gf', hi, rfl, HDr, HKr⟩ := hrel
    by_cases hlt : i < m
    · have hii : (i : Int) < (m : Int) := by omega
      obtain ⟨gr, hA⟩ : ∃ gr, A = some ⟨gr, 0, none⟩ := by
        rcases HD.out.own.2 with ⟨h1, _⟩ | ⟨gr, cap, cur, h1, _⟩
        · injection h1 with _ h2; have := HN.out; omega
        · injection h1 with h1; exact ⟨gr, h1⟩
      subst hA
      obtain ⟨p, hp⟩ : ∃ p, s1.loose[i]? = some p := ⟨_, List.getElem?_eq_getElem (by have := HN.out; omega)⟩
      have hpm := HD.out.ok.loose p (List.mem_of_getElem? hp)
      obtain ⟨WC, hWC⟩ : ∃ L, wcells p = L := ⟨_, rfl⟩
      have hwl : WC.length = 257 := by rw [← hWC]; exact wcells_length p hpm.2
      have hrg : wr.rangeAt gr (i * 257) WC := fun j v hv => by
        have hh := flatW_get s1.loose i p j v (fun q hq => (HD.out.ok.loose q hq).2) hp (by rw [hWC]; exact hv)
        have := HDr.out.own.cells (g := gr) rfl _ _ hh
        simpa [add_plain] using this
      obtain ⟨W1, hW1⟩ : ∃ W, wr.alloc (.cells ZW 80) = W := ⟨_, rfl⟩
      obtain ⟨W2, hW2⟩ : ∃ W, W1.setRow wr.heap.size WC.toArray = W := ⟨_, rfl⟩
      have k1 : Keeps (fun _ => False) wr W1 := by rw [← hW1]; exact (Keeps.refl _ _).alloc _
      have r1 : W1.heap[wr.heap.size]? = some (.cells ZW 80 (0, 0)) := by rw [← hW1]; exact heap_alloc_new wr _
      have R2 : Hid (W2.heap[wr.heap.size]? = some (.cells WC.toArray 80 (0, 0))) := Lib.hid (by rw [← hW2]; exact setRow_heap _ _ _ _ _ _ r1)
      have k2 : Keeps (fun _ => False) wr W2 := k1.trans' (T := fun k => k = wr.heap.size) (by rw [← hW2]; exact Keeps.setRow _ _) (fun i hi e => by omega)
      have R1 := Lib.hid r1
      have SW : Hid ((Try.prog.info? 80).map (·.size) = some WC.length) := Lib.hid (by rw [hwl]; exact size_write)
      have SW' : Hid ((Try.prog.info? 80).map (·.size) = some WC.toArray.size) := Lib.hid (by rw [List.size_toArray, hwl]; exact size_write)
      have ZWC : Hid (ZW.size = WC.toArray.size) := Lib.hid (HZS.out.trans (by rw [List.size_toArray, hwl]))
      have OWC : Hid (WC.toArray.all (·.oneCell') = true) := Lib.hid (by rw [← hWC, Array.all_eq_true_iff_forall_mem]; intro v hv; exact wcells_one p v (by simpa using hv))
      have HRG := Lib.hid hrg
      have D2 := HDr.out.later k2
      have hz := HZ.out
      have K2 := Lib.hid k2
      have HWC := Lib.hid hWC
      have HP := Lib.hid hp
      have HPM := Lib.hid hpm
      obtain ⟨cb, hcb⟩ : ∃ c, f[i]? = some c := ⟨_, List.getElem?_eq_getElem (by have := HFF.out; omega)⟩
      have hkw : Keeps (fun k => k = gb) w W2 := ((HK1.out.mono (fun _ _ h => h.elim)).trans' HKr.out (fun _ _ e => e)).trans' k2 (fun _ _ h => h.elim)
      obtain ⟨af, haf, hcf⟩ := (HSS.out.keeps hkw (fun a e _ e2 => HSF.out a e (by have := HFF.out; omega) (by rw [e2]; exact HD.out.fgb))) i (bv cb) (by rw [bvs_get, hcb]; rfl)
      subst haf
      have hcf2 : W2.cell? (af.add i) = some (.int .u8 (cb.toNat : Int)) := hcf
      have hcu := cb.toNat_lt
      have hcw : wrap64 (cb.toNat : Int) = (cb.toNat : Int) := IntWalk.wrap64_in _ (by omega)
      have hif : (i : Int) < (fl : Int) := by omega
      have hlay := lay_any W2 F g _ gb lb _ c gf' lf D2 p.1 p.2 (Dk.size cb) hpm.2 (Dk.size_le cb)
      rw [show (p.1, p.2) = p from rfl, hWC, ← Dk.crash_snoc s1.good s1.loose f i p cb hp hcb] at hlay
      have HLAY := Lib.hid hlay
      clear hp hpm hWC hwl hrg k1 r1 k2 D2 hlay hcb hcf hkw
      by_cases h255 : cb.toNat = 255
      · have hsz : Dk.size cb = 256 := by unfold Dk.size; rw [if_pos h255]
        rw [hsz] at HLAY
        rw [h255] at hcf2
        have HLAY' : Hid (Calls Try.prog 45 #[.pointer (some ⟨g, 0, none⟩), .agg WC.toArray, .int .i64 256] W2 _) := Lib.hid HLAY.out
        clear HLAY hcw hcu hsz h255
        go_wp2_with (first
          | (refine wpList_load_mid (by rfl) 80 (.tmp 26) (by rfl) gr (i * 257) (by rfl) WC _ HRG.out Try.underlying80 rfl SW.out ?_)
          | (refine wpList_store_row (by rfl) 80 _ _ rfl wr.heap.size WC.toArray rfl rfl 80 ZW R1.out SW'.out ZWC.out OWC.out ?_; rw [hW2])
          | (refine wpList_load_row rfl 80 _ rfl wr.heap.size rfl 80 WC.toArray (0, 0) _ R2.out Try.underlying80 rfl SW'.out ?_))
        refine HLAY'.out.mono ?_
        rintro e w3 ⟨rfl, ⟨gf3, d3⟩, k3⟩
        have D3 := Lib.hid d3
        have K3 : Hid (Keeps (fun k => k = gb) w1 w3) := Lib.hid ((HKr.out.trans' K2.out (fun _ _ h => h.elim)).trans' k3 (fun _ _ e => e))
        clear d3 k3 HLAY' R1 R2 SW SW' ZWC OWC HRG K2 HWC HP HPM HDr HKr hz
        go_wp2_with fail
        go_roundw
        case rel => exact ⟨i + 1, gf3, by omega, by go_num, D3, K3⟩
        case measure => simp [intOf]; omega
      · have hsz : Dk.size cb = cb.toNat := by unfold Dk.size; rw [if_neg h255]
        rw [hsz] at HLAY
        have hne : ((cb.toNat : Int) == 255) = false := by rw [beq_eq_false_iff_ne]; omega
        clear hcu hsz h255
        go_wp2_with (first
          | (refine wpList_load_mid (by rfl) 80 (.tmp 26) (by rfl) gr (i * 257) (by rfl) WC _ HRG.out Try.underlying80 rfl SW.out ?_)
          | (refine wpList_store_row (by rfl) 80 _ _ rfl wr.heap.size WC.toArray rfl rfl 80 ZW R1.out SW'.out ZWC.out OWC.out ?_; rw [hW2])
          | (refine wpList_load_row rfl 80 _ rfl wr.heap.size rfl 80 WC.toArray (0, 0) _ R2.out Try.underlying80 rfl SW'.out ?_))
        refine HLAY.out.mono ?_
        rintro e w3 ⟨rfl, ⟨gf3, d3⟩, k3⟩
        have D3 := Lib.hid d3
        have K3 : Hid (Keeps (fun k => k = gb) w1 w3) := Lib.hid ((HKr.out.trans' K2.out (fun _ _ h => h.elim)).trans' k3 (fun _ _ e => e))
        clear d3 k3 HLAY R1 R2 SW SW' ZWC OWC HRG K2 HWC HP HPM HDr HKr hz hne hcw
        go_wp2_with fail
        go_roundw
        case rel => exact ⟨i + 1, gf3, by omega, by go_num, D3, K3⟩
        case measure => simp [intOf]; omega
    · obtain rfl : i = m := by omega
      have hii : ¬ (i : Int) < (i : Int) := by omega
      have ht : Dk.crash s1.good (s1.loose.take i) (f.take i) = Dk.crash s1.good s1.loose f := Dk.crash_cut _ _ _ _ (by have h1 := HM.out; have h2 := HFF.out; have h3 := HN.out; omega)
      have D := HDr.out
      rw [ht] at D
      have hkw : Keeps F w wr := (HK1.out.mono (fun k _ e => e.elim)).trans' HKr.out (fun k _ e => by subst e; exact HD.out.fgb)
      have hti := tighten_any wr F g _ ⟨_, _, _, _, _, _, D⟩ (fun k hk => HF.out k (by have := hkw.size; omega))
      have HTI := Lib.hid hti
      have HKW := Lib.hid hkw
      have HFG := Lib.hid HD.out.fg
      clear D ht hti hkw HDr HKr HK1
      go_wp2_with fail
      refine HTI.out.mono ?_
      rintro e w4 ⟨rfl, ⟨gb4, lb4, A4, c4, gf4, lf4, d4⟩, k4⟩
      have r4 := d4.row
      have c4' : w4.cell? ⟨g, 4, none⟩ = some (.bool s1.fails) := r4.cell 4
      have c6' : w4.cell? ⟨g, 6, none⟩ = some (.bool s1.dead) := r4.cell 6
      have f4' := r4.frozen 4
      have f6' := r4.frozen 6
      have fin : DskAt ((w4.setCell ⟨g, 4, none⟩ (.bool false)).setCell ⟨g, 6, none⟩ (.bool false)) F g { s1 with good := Dk.crash s1.good s1.loose f, loose := [], fails := false, dead := false } ∧ Keeps F w ((w4.setCell ⟨g, 4, none⟩ (.bool false)).setCell ⟨g, 6, none⟩ (.bool false)) := by
        have hk : Keeps (fun k => k = g) w4 ((w4.setCell ⟨g, 4, none⟩ (.bool false)).setCell ⟨g, 6, none⟩ (.bool false)) := ((Keeps.refl (fun k => k = g) w4).setCell (p := ⟨g, 4, none⟩) (fun _ => rfl) _).setCell (p := ⟨g, 6, none⟩) (fun _ => rfl) _
        have hr := (r4.set 4 (.bool false)).set 6 (.bool false)
        exact ⟨⟨gb4, lb4, A4, c4, gf4, lf4, hr, d4.good.keeps hk d4.gb_ne, d4.last.keeps hk d4.lb_ne, hk.owns d4.own (fun k hv => (d4.own_ne k hv).1), d4.ne, d4.fg, d4.fgb, d4.flb, d4.fown, d4.gv, d4.lv, ⟨d4.ok.lo, d4.ok.hi, d4.ok.good, d4.ok.loose, d4.ok.wf, fun h => (by cases h)⟩⟩, (HKW.out.trans' k4 (fun k _ e => by subst e; exact HFG.out)).trans' hk (fun k _ e => by subst e; exact HFG.out)⟩
      have FIN := Lib.hid fin
      clear fin d4 r4 k4 HTI HKW
      go_wp2
      go_end0
      exact ⟨rfl, FIN.out.1, FIN.out.2⟩
end Go.Proofs.Ytnhegnncmjmafaa
