/-
  digest.Get; the program's digest keeps its contracts.
-/
import Derived.Test.YtmjpaopobnhckaaDhB
import Derived.Test.YtmjpaopobnhckaaDhD
import Derived.Test.YtmjpaopobnhckaaDhE
namespace Go.Proofs.Ytmjpaopobnhckaa
open Go.RowKit Go.BigFrame
set_option linter.unusedVariables false
set_option linter.unusedSimpArgs false

theorem build_G0 (V : World) : (Instr.build 26 #[]).run Try.prog V = .ok (.agg (dcs (.slice none 0 0) (.slice none 0 0))) V := by kernel_rfl
/-- What is told of Get. -/
def GGot (l : List UInt8) (w : World) (e : Ending) (w' : World) : Prop := ∃ (A3 : Option Addr) (c3 : Nat) (A4 : Option Addr) (c4 : Nat), e = .returned (.tuple #[.agg (dcs (.slice A3 (Dg.get l).1.length c3) (.slice A4 (Dg.get l).2.1.length c4)), .int .i64 (Dg.get l).2.2]) ∧ Keeps (fun _ => False) w w' ∧ LK w' A3 (Dg.get l).1.length c3 (Dg.get l).1 ∧ LH w' A4 (Dg.get l).2.1.length c4 (Dg.get l).2.1
theorem ggot_none {l : List UInt8} {w w' : World} {x : Int} (h : Dg.get l = ([], [], x)) (k : Keeps (fun _ => False) w w') : GGot l w (.returned (.tuple #[.agg (dcs (.slice none 0 0) (.slice none 0 0)), .int .i64 x])) w' := by
  unfold GGot
  rw [h]
  exact ⟨none, 0, none, 0, rfl, k, IsList.empty _ _ _ _, IsList.empty _ _ _ _⟩
theorem ggot_some {l : List UInt8} {w w' : World} {ks : List Ft.Key} {fs : List (List UInt8)} {A A2 : Option Addr} {n c m d : Nat} (h : Dg.get l = (ks, fs, 0)) (hn : ks.length = n) (hm : fs.length = m) (k : Keeps (fun _ => False) w w') (h1 : LK w' A n c ks) (h2 : LH w' A2 m d fs) : GGot l w (.returned (.tuple #[.agg (dcs (.slice A n c) (.slice A2 m d)), .int .i64 0])) w' := by
  subst hn hm
  unfold GGot
  rw [h]
  exact ⟨A, c, A2, d, rfl, k, h1, h2⟩
theorem get_big {l : List UInt8} (h : 32 < (rnum 1 (l, 0)).2) : Dg.get l = ([], [], 13) := by
  have h0 : (rnum 1 (l, 0)).1.2 = 0 := Decidable.byContradiction (fun h0 => by have := rnum1_no h0; omega)
  unfold Dg.get
  rw [if_pos ⟨h0, h⟩]
theorem get_small {l : List UInt8} (h : ¬ 32 < (rnum 1 (l, 0)).2) : Dg.get l = Dg.get2 (Dg.rkeys (rnum 1 (l, 0)).2.toNat (rnum 1 (l, 0)).1).2 (Dg.rkeys (rnum 1 (l, 0)).2.toNat (rnum 1 (l, 0)).1).1 := by
  unfold Dg.get
  rw [if_neg (fun h2 => h h2.2)]
theorem get2_big {ks : List Ft.Key} {s : RS} (h : 32 < (rnum 1 s).2) : Dg.get2 ks s = ([], [], 13) := by
  have h0 : (rnum 1 s).1.2 = 0 := Decidable.byContradiction (fun h0 => by have := rnum1_no h0; omega)
  unfold Dg.get2
  rw [if_pos ⟨h0, h⟩]
theorem get2_small {ks : List Ft.Key} {s : RS} (h : ¬ 32 < (rnum 1 s).2) : Dg.get2 ks s = if rend (Dg.rhs (rnum 1 s).2.toNat (rnum 1 s).1).1 = 0 then (ks, (Dg.rhs (rnum 1 s).2.toNat (rnum 1 s).1).2, 0) else ([], [], rend (Dg.rhs (rnum 1 s).2.toNat (rnum 1 s).1).1) := by
  unfold Dg.get2
  rw [if_neg (fun h2 => h h2.2)]
set_option maxRecDepth 100000 in
set_option maxHeartbeats 4000000 in
theorem gget_any (w : World) (A : Option Addr) (n c : Nat) (l : List UInt8) (hb : LB w A n c l) (hn : n ≤ 3000) :
    Calls Try.prog 22 #[.slice A n c] w (GGot l w) := by
  obtain rfl : l.length = n := hb.many
  obtain ⟨Z, hZ⟩ : ∃ Z, dcs (.slice none 0 0) (.slice none 0 0) = Z := ⟨_, rfl⟩
  have hz : ∀ V : World, (zeroValue 26).run Try.prog V = .ok (.agg Z) V := fun V => by rw [← hZ]; exact zero_G V
  have SZ : Hid ((Try.prog.info? 26).map (·.size) = some Z.size ∧ Z.all (·.oneCell') = true) := Lib.hid ⟨by rw [← hZ]; exact size_G _ _, by rw [← hZ]; exact dcs_one _ _ _ _ _ _⟩
  have HBD : Hid (∀ V : World, (Instr.build 26 #[]).run Try.prog V = .ok (.agg Z) V) := Lib.hid (fun V => by rw [← hZ]; exact build_G0 V)
  have HZ := Lib.hid hZ
  obtain ⟨b0, hb0⟩ : ∃ x, w.heap.size = x := ⟨_, rfl⟩
  obtain ⟨W1, hW1⟩ : ∃ V, w.alloc (.cells Z 26) = V := ⟨_, rfl⟩
  have k1 : Keeps (fun _ => False) w W1 := by rw [← hW1]; exact (Keeps.refl _ _).alloc _
  have r1 : W1.heap[b0]? = some (.cells Z 26 (0, 0)) := by rw [← hW1, ← hb0]; exact heap_alloc_new w _
  have H2 := Lib.hid (newReader_any A c l W1 (hb.src.keeps k1 (fun _ _ _ => id)) (by omega))
  have H0 : Hid (w.heap.size = b0 ∧ b0 < W1.heap.size) := Lib.hid ⟨hb0, (Array.getElem?_eq_some_iff.1 r1).1⟩
  have K1 := Lib.hid k1
  have R1a := Lib.hid r1
  have hcn := hb.le
  have hcx := hb.max
  clear hb hZ k1 r1
  go_enter Try.func22, Try.ntmps22
  go_wp2_with fail
  refine H2.out.mono ?_
  rintro e w2 ⟨rb, rr, rfl, hge, hrr, rd2, k2⟩
  have R1 := Lib.hid ((k2.block b0 (Array.getElem?_eq_some_iff.1 R1a.out).1 id).trans R1a.out)
  have HRB : Hid (b0 < rb) := Lib.hid (by have := H0.out; omega)
  have K2 := Lib.hid k2
  have H3 := Lib.hid (keyslist_any rb rr (l, 0) w2 rd2)
  have HL2 : Hid (rb < w2.heap.size) := Lib.hid rd2.lt
  clear hge hrr rd2 k2 H2 R1a hb0 hW1
  by_cases hbig : 32 < (rnum 1 (l, 0)).2
  · have HG := Lib.hid (get_big hbig)
    have HBIG := Lib.hid hbig
    clear hbig
    go_wp2_with fail
    refine H3.out.mono ?_
    rintro e w3 hg
    obtain ⟨rfl, k3⟩ := hg.1 HBIG.out
    clear hg H3
    obtain ⟨W9, hW9⟩ : ∃ V, w3.setRow b0 Z = V := ⟨_, rfl⟩
    have k9 : Keeps (fun j => j = b0) w3 W9 := by rw [← hW9]; exact Keeps.setRow _ _
    have r9 := ((k3).block b0 (Array.getElem?_eq_some_iff.1 R1.out).1 (fun e => by have := HRB.out; have e' : b0 = rb := e; omega)).trans R1.out
    have R9 := Lib.hid r9
    have Q9 : Hid (W9.heap[b0]? = some (.cells Z 26 (0, 0))) := Lib.hid (by rw [← hW9]; exact setRow_heap _ _ _ _ _ _ r9)
    have K9 : Hid (Keeps (fun _ => False) w W9) := Lib.hid (((K1.out.trans K2.out).trans' (k3) (fun i hi e => by have := HRB.out; have e' : i = rb := e; have := H0.out.1; omega)).trans' k9 (fun i hi e => by have := H0.out.1; have e' : i = b0 := e; omega))
    clear k9 r9
    go_wp2_with (first
      | (refine wpList_made (by rfl) 26 [] (by rfl) [] (by rfl) (.agg Z) HBD.out ?_)
      | (refine wpList_store_row (by rfl) 26 _ _ (by rfl) b0 Z (by rfl) (by rfl) 26 Z R9.out SZ.out.1 rfl SZ.out.2 ?_; rw [hW9])
      | fail)
    refine bodyPost_ret (results_cell_tmp rfl _ _ b0 26 Z (0, 0) _ rfl Q9.out Try.underlying26 rfl SZ.out.1) rfl ?_
    rw [← HZ.out]
    exact ggot_none HG.out K9.out
  · have hg1 := get_small hbig
    have HBIG := Lib.hid hbig
    have hkl := Dg.rkeys_length (rnum 1 (l, 0)).2.toNat (rnum 1 (l, 0)).1
    clear hbig
    go_wp2_with fail
    refine H3.out.mono ?_
    rintro e w3 hg
    obtain ⟨A3, c3, rfl, l3, rd3, k3⟩ := hg.2 (by have := HBIG.out; omega)
    clear hg H3
    obtain ⟨s2, hs2⟩ : ∃ s, (Dg.rkeys (rnum 1 (l, 0)).2.toNat (rnum 1 (l, 0)).1).1 = s := ⟨_, rfl⟩
    obtain ⟨ks, hks⟩ : ∃ s, (Dg.rkeys (rnum 1 (l, 0)).2.toNat (rnum 1 (l, 0)).1).2 = s := ⟨_, rfl⟩
    rw [hs2] at rd3 hg1
    rw [hks] at l3 hg1 hkl
    obtain ⟨n3, hn3⟩ : ∃ n, (rnum 1 (l, 0)).2.toNat = n := ⟨_, rfl⟩
    rw [hn3] at l3 hkl
    have H4 := Lib.hid (hasheslist_any rb rr s2 w3 rd3)
    have K3 := Lib.hid k3
    have L3 := Lib.hid l3
    have HL3 : Hid (rb < w3.heap.size) := Lib.hid rd3.lt
    have HKL := Lib.hid hkl
    have HG1 := Lib.hid hg1
    rw [hn3]
    clear l3 rd3 k3 hs2 hks hn3 hkl hg1 HBIG
    by_cases hbig : 32 < (rnum 1 s2).2
    · have HG := Lib.hid (HG1.out.trans (get2_big hbig))
      have HBIG := Lib.hid hbig
      clear hbig
      go_wp2_with fail
      refine H4.out.mono ?_
      rintro e w4 hg
      obtain ⟨rfl, k4⟩ := hg.1 HBIG.out
      clear hg H4
      obtain ⟨W9, hW9⟩ : ∃ V, w4.setRow b0 Z = V := ⟨_, rfl⟩
      have k9 : Keeps (fun j => j = b0) w4 W9 := by rw [← hW9]; exact Keeps.setRow _ _
      have r9 := ((K3.out.trans k4).block b0 (Array.getElem?_eq_some_iff.1 R1.out).1 (fun e => by have := HRB.out; have e' : b0 = rb := e; omega)).trans R1.out
      have R9 := Lib.hid r9
      have Q9 : Hid (W9.heap[b0]? = some (.cells Z 26 (0, 0))) := Lib.hid (by rw [← hW9]; exact setRow_heap _ _ _ _ _ _ r9)
      have K9 : Hid (Keeps (fun _ => False) w W9) := Lib.hid (((K1.out.trans K2.out).trans' (K3.out.trans k4) (fun i hi e => by have := HRB.out; have e' : i = rb := e; have := H0.out.1; omega)).trans' k9 (fun i hi e => by have := H0.out.1; have e' : i = b0 := e; omega))
      clear k9 r9
      go_wp2_with (first
        | (refine wpList_made (by rfl) 26 [] (by rfl) [] (by rfl) (.agg Z) HBD.out ?_)
        | (refine wpList_store_row (by rfl) 26 _ _ (by rfl) b0 Z (by rfl) (by rfl) 26 Z R9.out SZ.out.1 rfl SZ.out.2 ?_; rw [hW9])
        | fail)
      refine bodyPost_ret (results_cell_tmp rfl _ _ b0 26 Z (0, 0) _ rfl Q9.out Try.underlying26 rfl SZ.out.1) rfl ?_
      rw [← HZ.out]
      exact ggot_none HG.out K9.out
    · have hg2 := HG1.out.trans (get2_small hbig)
      have HBIG := Lib.hid hbig
      have hfl := Dg.rhs_length (rnum 1 s2).2.toNat (rnum 1 s2).1
      clear hbig
      go_wp2_with fail
      refine H4.out.mono ?_
      rintro e w4 hg
      obtain ⟨A4, c4, rfl, l4, rd4, k4⟩ := hg.2 (by have := HBIG.out; omega)
      clear hg H4
      obtain ⟨s3, hs3⟩ : ∃ s, (Dg.rhs (rnum 1 s2).2.toNat (rnum 1 s2).1).1 = s := ⟨_, rfl⟩
      obtain ⟨fs, hfs⟩ : ∃ s, (Dg.rhs (rnum 1 s2).2.toNat (rnum 1 s2).1).2 = s := ⟨_, rfl⟩
      rw [hs3] at rd4 hg2
      rw [hfs] at l4 hg2 hfl
      obtain ⟨n4, hn4⟩ : ∃ n, (rnum 1 s2).2.toNat = n := ⟨_, rfl⟩
      rw [hn4] at l4 hfl
      have H5 := Lib.hid (rdEnd_any rb rr s3 w4 rd4)
      have K4 := Lib.hid (K3.out.trans k4)
      have L4 : Hid ((∀ V, Keeps (fun j => j = b0) w4 V → LK V A3 n3 c3 ks) ∧ ∀ V, Keeps (fun j => j = b0) w4 V → LH V A4 n4 c4 fs) := Lib.hid ⟨fun V hV => L3.out V ((k4.mono (fun j _ e => by have e' : j = rb := e; have := HL2.out; show j < _; omega)).trans (hV.mono (fun j _ e => by have e' : j = b0 := e; have := HL2.out; have := HRB.out; show j < _; omega))), fun V hV => l4 V (hV.mono (fun j _ e => by have e' : j = b0 := e; have := HL3.out; have := HRB.out; show j < _; omega))⟩
      have HFL := Lib.hid hfl
      have HG2 := Lib.hid hg2
      rw [hn4]
      clear l4 rd4 k4 hs3 hfs hn4 hfl hg2 HBIG K3 L3
      go_wp2_with fail
      refine H5.out.mono ?_
      rintro e w5 ⟨rfl, hw5⟩
      obtain rfl : w4 = w5 := hw5
      by_cases he : rend s3 = 0
      · have HG := Lib.hid (HG2.out.trans (if_pos he))
        rw [he]
        obtain ⟨C, hC⟩ : ∃ C, dcs (.slice A3 n3 c3) (.slice A4 n4 c4) = C := ⟨_, rfl⟩
        have SC : Hid ((Try.prog.info? 26).map (·.size) = some C.size ∧ Z.size = C.size ∧ C.all (·.oneCell') = true) := Lib.hid ⟨by rw [← hC]; exact size_G _ _, by rw [← hC, ← HZ.out]; rfl, by rw [← hC]; exact dcs_one _ _ _ _ _ _⟩
        have HBC : Hid (∀ V : World, (Instr.build 26 #[(0, .slice A3 n3 c3), (1, .slice A4 n4 c4)]).run Try.prog V = .ok (.agg C) V) := Lib.hid (fun V => by rw [← hC]; exact build_G _ _ _ _ _ _ V)
        have HC := Lib.hid hC
        obtain ⟨W9, hW9⟩ : ∃ V, w4.setRow b0 C = V := ⟨_, rfl⟩
        have k9 : Keeps (fun j => j = b0) w4 W9 := by rw [← hW9]; exact Keeps.setRow _ _
        have r9 := (K4.out.block b0 (Array.getElem?_eq_some_iff.1 R1.out).1 (fun e => by have := HRB.out; have e' : b0 = rb := e; omega)).trans R1.out
        have R9 := Lib.hid r9
        have Q9 : Hid (W9.heap[b0]? = some (.cells C 26 (0, 0))) := Lib.hid (by rw [← hW9]; exact setRow_heap _ _ _ _ _ _ r9)
        have K9 : Hid (Keeps (fun _ => False) w W9) := Lib.hid (((K1.out.trans K2.out).trans' K4.out (fun i hi e => by have := HRB.out; have e' : i = rb := e; have := H0.out.1; omega)).trans' k9 (fun i hi e => by have := H0.out.1; have e' : i = b0 := e; omega))
        have L9 := Lib.hid (And.intro (L4.out.1 W9 k9) (L4.out.2 W9 k9))
        clear k9 r9 he hC
        go_wp2_with (first
          | (refine wpList_made (by rfl) 26 [(0, .tmp 35), (1, .tmp 36)] (by rfl) [(0, .slice A3 n3 c3), (1, .slice A4 n4 c4)] (by rfl) (.agg C) HBC.out ?_)
          | (refine wpList_store_row (by rfl) 26 _ _ (by rfl) b0 C (by rfl) (by rfl) 26 Z R9.out SC.out.1 SC.out.2.1 SC.out.2.2 ?_; rw [hW9])
          | fail)
        refine bodyPost_ret (results_cell_tmp rfl _ _ b0 26 C (0, 0) _ rfl Q9.out Try.underlying26 rfl SC.out.1) rfl ?_
        rw [← HC.out]
        exact ggot_some HG.out HKL.out HFL.out K9.out L9.out.1 L9.out.2
      · have HG := Lib.hid (HG2.out.trans (if_neg he))
        obtain ⟨x, hx⟩ : ∃ x, rend s3 = x := ⟨_, rfl⟩
        rw [hx] at he HG
        rw [hx]
        have hne : (x != 0) = true := by simpa using he
        clear hx he
        obtain ⟨W9, hW9⟩ : ∃ V, w4.setRow b0 Z = V := ⟨_, rfl⟩
        have k9 : Keeps (fun j => j = b0) w4 W9 := by rw [← hW9]; exact Keeps.setRow _ _
        have r9 := ((K4.out).block b0 (Array.getElem?_eq_some_iff.1 R1.out).1 (fun e => by have := HRB.out; have e' : b0 = rb := e; omega)).trans R1.out
        have R9 := Lib.hid r9
        have Q9 : Hid (W9.heap[b0]? = some (.cells Z 26 (0, 0))) := Lib.hid (by rw [← hW9]; exact setRow_heap _ _ _ _ _ _ r9)
        have K9 : Hid (Keeps (fun _ => False) w W9) := Lib.hid (((K1.out.trans K2.out).trans' (K4.out) (fun i hi e => by have := HRB.out; have e' : i = rb := e; have := H0.out.1; omega)).trans' k9 (fun i hi e => by have := H0.out.1; have e' : i = b0 := e; omega))
        clear k9 r9
        go_wp2_with (first
          | (refine wpList_made (by rfl) 26 [] (by rfl) [] (by rfl) (.agg Z) HBD.out ?_)
          | (refine wpList_store_row (by rfl) 26 _ _ (by rfl) b0 Z (by rfl) (by rfl) 26 Z R9.out SZ.out.1 rfl SZ.out.2 ?_; rw [hW9])
          | fail)
        refine bodyPost_ret (results_cell_tmp rfl _ _ b0 26 Z (0, 0) _ rfl Q9.out Try.underlying26 rfl SZ.out.1) rfl ?_
        rw [← HZ.out]
        exact ggot_none HG.out K9.out
/-- The program's digest keeps the contracts. -/
theorem digs_ok : Digs where
  make := gmake_any
  wants := gwants_any
  lacks := glacks_any
  misses := gmisses_any
  put := gput_any
  get := fun w A n c b hb hn => gget_any w A n c b hb hn
end Go.Proofs.Ytmjpaopobnhckaa
