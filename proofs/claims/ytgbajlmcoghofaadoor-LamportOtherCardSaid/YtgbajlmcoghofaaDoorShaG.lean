/-
  The hash of rows of bytes (sha.Of).
-/
import Derived.Test.YtgbajlmcoghofaaDoorShaE
namespace Go.Proofs.YtgbajlmcoghofaaDoor
open Go.RowKit Go.BigFrame
set_option linter.unusedVariables false

/-- A row of bytes: where it lies, how many it has room for, what it holds. -/
abbrev RowOf := Option Addr × Nat × List UInt8
/-- Rows of bytes that lie behind one another from a on. -/
structure RowsAt (w : World) (a : Option Addr) (rs : List RowOf) : Prop where
  cell : ∀ i r, rs[i]? = some r → ∃ ad, a = some ad ∧ w.cell? (ad.add i) = some (.slice r.1 r.2.2.length r.2.1)
  src : ∀ r ∈ rs, Src w r.1 (bvs r.2.2)
  cap : ∀ r ∈ rs, r.2.2.length ≤ r.2.1 ∧ r.2.1 ≤ 9223372036854775807
theorem RowsAt.nil (w : World) (a : Option Addr) : RowsAt w a [] := ⟨fun i r h => by simp at h, fun r h => by simp at h, fun r h => by simp at h⟩
def bytesOf (rs : List RowOf) : List UInt8 := rs.flatMap fun r => r.2.2
theorem bytesOf_take (rs : List RowOf) (i : Nat) (r : RowOf) (h : rs[i]? = some r) : bytesOf (rs.take (i + 1)) = bytesOf (rs.take i) ++ r.2.2 := by
  have hi := (List.getElem?_eq_some_iff.1 h).1
  have e : rs[i] = r := by rw [List.getElem?_eq_getElem hi] at h; exact Option.some.inj h
  rw [List.take_succ_eq_append_getElem hi]
  unfold bytesOf
  rw [List.flatMap_append, e]
  simp
theorem RowsAt.keeps {S : Nat → Prop} {w w' : World} {a : Option Addr} {rs : List RowOf} (h : RowsAt w a rs) (hk : Keeps S w w') (hs : ∀ k, k < w.heap.size → ¬ S k) : RowsAt w' a rs := by
  refine ⟨fun i r hr => ?_, fun r hr => (h.src r hr).keeps hk (fun a _ hl => hs _ hl), h.cap⟩
  obtain ⟨ad, e, hc⟩ := h.cell i r hr
  have hl := World.block_lt_of_cell? w _ hc
  exact ⟨ad, e, (hk.cell hl (hs _ hl)).trans hc⟩

/-- A struct is built of one part, by its run. -/
theorem wpList_build_run {P : Program} {ops : Array Oper} {rest : List Oper} {o : Oper} {a : Act} {w : World} {Q : Exit → Act → World → Prop} (hgd : o.guard = none) (t : TypeId) (n : Nat) (x : Operand) (ho : o.op = .build t #[(n, x)])
    (u v : Value) (hx : a.eval x = u) (hrun : (Instr.build t #[(n, u)]).run P w = .ok v w) (h : wpList P ops Q rest (a.put o.dst v) w) : wpList P ops Q (o :: rest) a w := by
  refine wpList_plain hgd fun _ hK => ?_
  unfold Oper.wp execOp
  simp only [ho, Sem.run_bind, Sem.run_pure, Result.andThen_ok, List.map_toArray, List.map_cons, List.map_nil, hx, hrun]
  exact hK _ _ h
theorem mixed_nil : Sh.mixed [] = Sh.st0 := rfl
/-- What a new mixer holds. -/
def mcells0 : List Value := mcells Sh.st0 (List.replicate 64 0) 0 0
theorem mcells0_mx {w : World} {b : Nat} (hb : 1 < b) (h : Row w b 59 mcells0) : MxM w b [] 0 := ⟨List.replicate 64 0, rfl, by simp, hb, h⟩
theorem mcells0_one : mcells0.toArray.all (·.oneCell') = true := by decide +kernel
theorem size_mixer : (Tryd.prog.info? 59).map (·.size) = some 74 := by kernel_rfl

set_option maxRecDepth 100000 in
set_option maxHeartbeats 2000000 in
theorem of_some (a : Addr) (c : Nat) (rs : List RowOf) (w : World) (hT : Tabs w) (hR : RowsAt w (some a) rs) (hn : rs.length ≤ 9223372036854775807) (hl : (bytesOf rs).length ≤ 100000000) :
    Calls Tryd.prog 16 #[.slice (some a) rs.length c] w fun e w' => e = .returned (.agg (bvs (Sh.sha (bytesOf rs))).toArray) ∧ Keeps (fun _ => False) w w' := by
  have hT1 := hT.lt
  obtain ⟨t0, fr0, h0⟩ := hT.zero
  have hb : ∀ W : World, (Instr.build 59 #[(0, .agg (wvs Sh.st0.list).toArray)]).run Tryd.prog W = .ok (.agg mcells0.toArray) W := fun _ => by kernel_rfl
  have hsz0 : (Tryd.prog.info? 55).map (·.size) = some (wvs Sh.st0.list).toArray.size := size_w8
  obtain ⟨S0, hS0⟩ : ∃ S, (wvs Sh.st0.list).toArray = S := ⟨_, rfl⟩
  obtain ⟨Z0, hZ0⟩ : ∃ Z, (mcells ⟨0, 0, 0, 0, 0, 0, 0, 0⟩ (List.replicate 64 0) 0 0).toArray = Z := ⟨_, rfl⟩
  have hz : ∀ w : World, (zeroValue 59).run Tryd.prog w = .ok (.agg Z0) w := fun _ => by subst hZ0; kernel_rfl
  have hsz : Z0.size = mcells0.toArray.size := by subst hZ0; rfl
  obtain ⟨M0, hM0⟩ : ∃ M, mcells0.toArray = M := ⟨_, rfl⟩
  have hm1 : M0.all (·.oneCell') = true := by subst hM0; exact mcells0_one
  have hms : (Tryd.prog.info? 59).map (·.size) = some M0.size := by subst hM0; exact size_mixer
  rw [hS0] at hb hsz0 h0
  rw [hM0] at hb hsz
  have hg0 : ∀ W, Keeps (fun _ => False) w W → W.heap[0]? = some (.cells S0 t0 fr0) := fun W hk => (hk.block 0 (by omega) id).trans h0
  have HG0 := Lib.hid hg0
  have HB := Lib.hid hb
  have HSZ0 := Lib.hid hsz0
  have HSZ := Lib.hid hsz
  have HM0 := Lib.hid hM0
  have HM1 := Lib.hid hm1
  have HMS := Lib.hid hms
  have HNEW : Hid (∀ o : Obj, ((w.alloc o).alloc (.cells Z0 59)).heap[w.heap.size + 1]? = some (.cells Z0 59 (0, 0))) := fun o => heap_alloc2_new w _ _
  clear hS0 hZ0 hb hsz0 h0 hg0 hsz hM0 hm1 hms
  go_enter Tryd.func16, Tryd.ntmps16
  go_wp2_with (first
    | (refine wpList_load_row (by rfl) 55 (.global 0) (by rfl) 0 (by rfl) t0 S0 fr0 _ (HG0.out _ ((Keeps.refl _ w).alloc _)) Tryd.underlying55 rfl HSZ0.out ?_)
    | (refine wpList_build_run (by rfl) 59 0 (.tmp 6) (by rfl) (.agg S0) (.agg M0) (by rfl) (HB.out _) ?_)
    | (refine wpList_store_abs (by rfl) 59 (.tmp 3) (.tmp 7) (by rfl) (w.heap.size + 1) M0 (by rfl) (by rfl) 59 Z0 (HNEW.out _) HMS.out HSZ.out HM1.out ?_; intro w1 HH k1))
  clear hz HG0 HB HSZ0 HSZ HM1 HMS HNEW
  have k0 : Keeps (fun k => w.heap.size ≤ k) w w1 := ((((Keeps.refl (fun k => w.heap.size ≤ k) w).alloc _).alloc _)).trans' k1 (fun i hi h => by omega)
  have hout : Row w1 w.heap.size 23 (bvs (List.replicate 32 0)) := (k1.block w.heap.size (by simp; omega) (by omega)).trans (heap_alloc2_old w _ _)
  have hM1 : MxM w1 (w.heap.size + 1) (bytesOf (rs.take 0)) ((bytesOf (rs.take 0)).length) := by
    rw [List.take_zero]
    refine mcells0_mx (by omega) ?_
    have h := HH.out
    rw [← HM0.out] at h
    exact h
  have HR := Lib.hid hR
  have HT := Lib.hid hT
  clear HH HM0 hR hT
  go_loopw [10] (fun v wr => ∃ i : Nat, i ≤ rs.length ∧ v = .int .i64 i ∧ Hid (Row wr w.heap.size 23 (bvs (List.replicate 32 0))) ∧ Hid (MxM wr (w.heap.size + 1) (bytesOf (rs.take i)) ((bytesOf (rs.take i)).length)) ∧ Keeps (fun k => w.heap.size ≤ k) w wr) (fun v _ => rs.length - (intOf v).toNat)
  case atStart => exact ⟨0, by omega, rfl, hout, hM1, k0⟩
  case round =>
    clear hout hM1 k0
    obtain ⟨i, hi, rfl, HO, HM, hkp⟩ := hrel
    by_cases hlt : i < rs.length
    · obtain ⟨r, hr⟩ : ∃ r, rs[i]? = some r := ⟨_, List.getElem?_eq_getElem hlt⟩
      have hRw := HR.out.keeps hkp (by omega)
      obtain ⟨ad, ha, hc⟩ := hRw.cell i r hr
      obtain rfl : a = ad := Option.some.inj ha
      clear ha
      have hmem : r ∈ rs := List.mem_of_getElem? hr
      obtain ⟨hcap1, hcap2⟩ := HR.out.cap r hmem
      have hsrc := hRw.src r hmem
      have hb := bytesOf_take rs i r hr
      have hlen : (bytesOf (rs.take i)).length + r.2.2.length ≤ 100000000 := by
        have h1 : bytesOf rs = bytesOf (rs.take (i + 1)) ++ bytesOf (rs.drop (i + 1)) := by unfold bytesOf; rw [← List.flatMap_append, List.take_append_drop]
        have h2 := congrArg List.length h1
        rw [List.length_append, hb, List.length_append] at h2
        omega
      have hapart : 0 < r.2.2.length → Apart r.1 (w.heap.size + 1) := fun hp x hx e => by
        obtain ⟨x', hx', hcx⟩ := (HR.out.src r hmem).pos (by rw [bvs_length]; exact hp)
        rw [hx] at hx'
        injection hx' with hx'
        subst hx'
        have h1 := World.block_lt_of_cell? w _ (hcx 0 _ (bvs_at r.2.2 hp))
        have h2 : (x.add 0).block = x.block := by unfold Addr.add; split <;> rfl
        omega
      obtain ⟨A, cA, xs⟩ := r
      have HB := Lib.hid hb
      have HC := Lib.hid hc
      have hadd := add_any (w.heap.size + 1) (bytesOf (rs.take i)) xs ((bytesOf (rs.take i)).length) A cA wr (HT.out.keeps hkp (by have := HT.out.lt; omega) (by have := HT.out.lt; omega)) HM.out hsrc hapart hcap1 hcap2 (by omega) (by have : xs.length ≤ 100000000 := Nat.le_trans (Nat.le_add_left _ _) hlen; show ((bytesOf (rs.take i)).length : Int) + (xs.length : Int) ≤ _; simp only at hlen; omega)
      have HADD := Lib.hid hadd
      clear hb hmem hr hRw hadd hsrc hapart hcap1 hcap2 hlen
      have hc' : wr.cell? (a.add i) = some (.slice A xs.length cA) := hc
      clear hc
      go_wp2_with (go_at_call 27; refine HADD.out.mono ?_; rintro e w2 ⟨rfl, hM2, k2⟩)
      go_roundw
      case rel =>
        refine ⟨i + 1, by omega, by go_num, Lib.hid ((HO.out).keeps k2 (by omega)), Lib.hid ?_, hkp.trans' k2 (fun _ _ h => by omega)⟩
        rw [HB.out, List.length_append]
        exact hM2
      case measure => simp [intOf]; omega
    · have ei : rs.take i = rs := List.take_of_length_le (by omega)
      rw [ei] at HM
      clear ei
      have hfin := finish_any (w.heap.size + 1) (bytesOf rs) wr (HT.out.keeps hkp (by have := HT.out.lt; omega) (by have := HT.out.lt; omega)) HM.out hl
      have HFIN := Lib.hid hfin
      clear hfin HM
      go_wp2_with fail
      refine HFIN.out.mono ?_
      rintro e w2 ⟨rfl, ⟨m2, blk2, _, hM2⟩, k2⟩
      have ho2 := HO.out.keeps k2 (by omega)
      have hk2 := hkp.trans' k2 (fun _ _ h => by omega)
      have hhash := hash_any _ _ _ _ _ _ hM2
      have HHASH := Lib.hid hhash
      clear hhash hM2 HFIN
      go_wp2_with fail
      refine HHASH.out.mono ?_
      rintro e w3 ⟨rfl, k3⟩
      have ho3 := ho2.keeps k3 id
      have hk3 := hk2.trans' k3 (fun _ _ h => h.elim)
      obtain ⟨R, hR⟩ : ∃ R, (bvs (Sh.outs (Sh.mixed (Sh.pad (bytesOf rs))))).toArray = R := ⟨_, rfl⟩
      have hsz : (Tryd.prog.info? 23).map (·.size) = some R.size := by rw [← hR, List.size_toArray, bvs_length, Sh.outs_length]; exact size_hash'
      have hz : (bvs (List.replicate 32 0)).toArray.size = R.size := by rw [← hR, List.size_toArray, bvs_length, List.size_toArray, bvs_length, Sh.outs_length, List.length_replicate]
      have hone : R.all (·.oneCell') = true := by rw [← hR]; exact bvs_all _
      rw [hR]
      have HSZ := Lib.hid hsz
      have HZ := Lib.hid hz
      have HONE := Lib.hid hone
      have HRR := Lib.hid hR
      have HO3 : Hid (w3.heap[w.heap.size]? = some (.cells (bvs (List.replicate 32 0)).toArray 23 (0, 0))) := ho3
      clear hsz hz hone hR ho2 ho3 HHASH HO
      go_wp2_with (refine wpList_store_row rfl 23 _ _ rfl w.heap.size R rfl rfl 23 (bvs (List.replicate 32 0)).toArray HO3.out HSZ.out HZ.out HONE.out ?_)
      refine bodyPost_ret (results_cell_row rfl _ _ w.heap.size 23 R (0, 0) _ rfl (setRow_heap _ _ _ _ _ _ HO3.out) Tryd.underlying23 rfl HSZ.out) rfl ?_
      exact ⟨by rw [Sh.sha_mixed, HRR.out], hk3.trans' (Keeps.setRow w.heap.size R) (fun i hi h => by omega) |>.mono (fun i hi h => by omega)⟩
set_option maxRecDepth 100000 in
set_option maxHeartbeats 2000000 in
theorem of_none (c : Nat) (rs : List RowOf) (w : World) (hT : Tabs w) (hR : RowsAt w none rs) (hn : rs.length ≤ 9223372036854775807) (hl : (bytesOf rs).length ≤ 100000000) :
    Calls Tryd.prog 16 #[.slice none rs.length c] w fun e w' => e = .returned (.agg (bvs (Sh.sha (bytesOf rs))).toArray) ∧ Keeps (fun _ => False) w w' := by
  have hT1 := hT.lt
  obtain ⟨t0, fr0, h0⟩ := hT.zero
  have hb : ∀ W : World, (Instr.build 59 #[(0, .agg (wvs Sh.st0.list).toArray)]).run Tryd.prog W = .ok (.agg mcells0.toArray) W := fun _ => by kernel_rfl
  have hsz0 : (Tryd.prog.info? 55).map (·.size) = some (wvs Sh.st0.list).toArray.size := size_w8
  obtain ⟨S0, hS0⟩ : ∃ S, (wvs Sh.st0.list).toArray = S := ⟨_, rfl⟩
  obtain ⟨Z0, hZ0⟩ : ∃ Z, (mcells ⟨0, 0, 0, 0, 0, 0, 0, 0⟩ (List.replicate 64 0) 0 0).toArray = Z := ⟨_, rfl⟩
  have hz : ∀ w : World, (zeroValue 59).run Tryd.prog w = .ok (.agg Z0) w := fun _ => by subst hZ0; kernel_rfl
  have hsz : Z0.size = mcells0.toArray.size := by subst hZ0; rfl
  obtain ⟨M0, hM0⟩ : ∃ M, mcells0.toArray = M := ⟨_, rfl⟩
  have hm1 : M0.all (·.oneCell') = true := by subst hM0; exact mcells0_one
  have hms : (Tryd.prog.info? 59).map (·.size) = some M0.size := by subst hM0; exact size_mixer
  rw [hS0] at hb hsz0 h0
  rw [hM0] at hb hsz
  have hg0 : ∀ W, Keeps (fun _ => False) w W → W.heap[0]? = some (.cells S0 t0 fr0) := fun W hk => (hk.block 0 (by omega) id).trans h0
  have HG0 := Lib.hid hg0
  have HB := Lib.hid hb
  have HSZ0 := Lib.hid hsz0
  have HSZ := Lib.hid hsz
  have HM0 := Lib.hid hM0
  have HM1 := Lib.hid hm1
  have HMS := Lib.hid hms
  have HNEW : Hid (∀ o : Obj, ((w.alloc o).alloc (.cells Z0 59)).heap[w.heap.size + 1]? = some (.cells Z0 59 (0, 0))) := fun o => heap_alloc2_new w _ _
  clear hS0 hZ0 hb hsz0 h0 hg0 hsz hM0 hm1 hms
  go_enter Tryd.func16, Tryd.ntmps16
  go_wp2_with (first
    | (refine wpList_load_row (by rfl) 55 (.global 0) (by rfl) 0 (by rfl) t0 S0 fr0 _ (HG0.out _ ((Keeps.refl _ w).alloc _)) Tryd.underlying55 rfl HSZ0.out ?_)
    | (refine wpList_build_run (by rfl) 59 0 (.tmp 6) (by rfl) (.agg S0) (.agg M0) (by rfl) (HB.out _) ?_)
    | (refine wpList_store_abs (by rfl) 59 (.tmp 3) (.tmp 7) (by rfl) (w.heap.size + 1) M0 (by rfl) (by rfl) 59 Z0 (HNEW.out _) HMS.out HSZ.out HM1.out ?_; intro w1 HH k1))
  clear hz HG0 HB HSZ0 HSZ HM1 HMS HNEW
  have k0 : Keeps (fun k => w.heap.size ≤ k) w w1 := ((((Keeps.refl (fun k => w.heap.size ≤ k) w).alloc _).alloc _)).trans' k1 (fun i hi h => by omega)
  have hout : Row w1 w.heap.size 23 (bvs (List.replicate 32 0)) := (k1.block w.heap.size (by simp; omega) (by omega)).trans (heap_alloc2_old w _ _)
  have hM1 : MxM w1 (w.heap.size + 1) (bytesOf (rs.take 0)) ((bytesOf (rs.take 0)).length) := by
    rw [List.take_zero]
    refine mcells0_mx (by omega) ?_
    have h := HH.out
    rw [← HM0.out] at h
    exact h
  have HR := Lib.hid hR
  have HT := Lib.hid hT
  clear HH HM0 hR hT
  go_loopw [10] (fun v wr => ∃ i : Nat, i ≤ rs.length ∧ v = .int .i64 i ∧ Hid (Row wr w.heap.size 23 (bvs (List.replicate 32 0))) ∧ Hid (MxM wr (w.heap.size + 1) (bytesOf (rs.take i)) ((bytesOf (rs.take i)).length)) ∧ Keeps (fun k => w.heap.size ≤ k) w wr) (fun v _ => rs.length - (intOf v).toNat)
  case atStart => exact ⟨0, by omega, rfl, hout, hM1, k0⟩
  case round =>
    clear hout hM1 k0
    obtain ⟨i, hi, rfl, HO, HM, hkp⟩ := hrel
    by_cases hlt : i < rs.length
    · obtain ⟨r, hr⟩ : ∃ r, rs[i]? = some r := ⟨_, List.getElem?_eq_getElem hlt⟩
      have hRw := HR.out.keeps hkp (by omega)
      obtain ⟨ad, ha, hc⟩ := hRw.cell i r hr
      cases ha
    · have ei : rs.take i = rs := List.take_of_length_le (by omega)
      rw [ei] at HM
      clear ei
      have hfin := finish_any (w.heap.size + 1) (bytesOf rs) wr (HT.out.keeps hkp (by have := HT.out.lt; omega) (by have := HT.out.lt; omega)) HM.out hl
      have HFIN := Lib.hid hfin
      clear hfin HM
      go_wp2_with fail
      refine HFIN.out.mono ?_
      rintro e w2 ⟨rfl, ⟨m2, blk2, _, hM2⟩, k2⟩
      have ho2 := HO.out.keeps k2 (by omega)
      have hk2 := hkp.trans' k2 (fun _ _ h => by omega)
      have hhash := hash_any _ _ _ _ _ _ hM2
      have HHASH := Lib.hid hhash
      clear hhash hM2 HFIN
      go_wp2_with fail
      refine HHASH.out.mono ?_
      rintro e w3 ⟨rfl, k3⟩
      have ho3 := ho2.keeps k3 id
      have hk3 := hk2.trans' k3 (fun _ _ h => h.elim)
      obtain ⟨R, hR⟩ : ∃ R, (bvs (Sh.outs (Sh.mixed (Sh.pad (bytesOf rs))))).toArray = R := ⟨_, rfl⟩
      have hsz : (Tryd.prog.info? 23).map (·.size) = some R.size := by rw [← hR, List.size_toArray, bvs_length, Sh.outs_length]; exact size_hash'
      have hz : (bvs (List.replicate 32 0)).toArray.size = R.size := by rw [← hR, List.size_toArray, bvs_length, List.size_toArray, bvs_length, Sh.outs_length, List.length_replicate]
      have hone : R.all (·.oneCell') = true := by rw [← hR]; exact bvs_all _
      rw [hR]
      have HSZ := Lib.hid hsz
      have HZ := Lib.hid hz
      have HONE := Lib.hid hone
      have HRR := Lib.hid hR
      have HO3 : Hid (w3.heap[w.heap.size]? = some (.cells (bvs (List.replicate 32 0)).toArray 23 (0, 0))) := ho3
      clear hsz hz hone hR ho2 ho3 HHASH HO
      go_wp2_with (refine wpList_store_row rfl 23 _ _ rfl w.heap.size R rfl rfl 23 (bvs (List.replicate 32 0)).toArray HO3.out HSZ.out HZ.out HONE.out ?_)
      refine bodyPost_ret (results_cell_row rfl _ _ w.heap.size 23 R (0, 0) _ rfl (setRow_heap _ _ _ _ _ _ HO3.out) Tryd.underlying23 rfl HSZ.out) rfl ?_
      exact ⟨by rw [Sh.sha_mixed, HRR.out], hk3.trans' (Keeps.setRow w.heap.size R) (fun i hi h => by omega) |>.mono (fun i hi h => by omega)⟩
theorem of_any (a : Option Addr) (c : Nat) (rs : List RowOf) (w : World) (hT : Tabs w) (hR : RowsAt w a rs) (hn : rs.length ≤ 9223372036854775807) (hl : (bytesOf rs).length ≤ 100000000) :
    Calls Tryd.prog 16 #[.slice a rs.length c] w fun e w' => e = .returned (.agg (bvs (Sh.sha (bytesOf rs))).toArray) ∧ Keeps (fun _ => False) w w' := by
  cases a with
  | none => exact of_none c rs w hT hR hn hl
  | some a => exact of_some a c rs w hT hR hn hl
end Go.Proofs.YtgbajlmcoghofaaDoor
