/-
  Disks: a block is read. WRITTEN BY wip/gen/mkdkf.py.
-/
import Derived.Test.YtnhegnncmjmafaaDkE
namespace Go.Proofs.Ytnhegnncmjmafaa
open Go.RowKit Go.BigFrame
set_option linter.unusedVariables false

theorem zero_int (w : World) : (zeroValue 3).run Try.prog w = .ok (.int .i64 0) w := by kernel_rfl
theorem read_none (w : World) (i : Int) : Calls Try.prog 47 #[.pointer none, .int .i64 i] w fun e w' => e = .returned (.tuple #[.slice none 0 0, .int .i64 1]) ∧ w' = w := by
  have hat := at_none w i
  have HAT := Lib.hid hat
  clear hat
  go_enter Try.func47, Try.ntmps47
  go_wp2_with fail
  refine HAT.out.mono ?_
  rintro e w1 ⟨rfl, h1⟩
  obtain rfl : w = w1 := h1.symm
  go_wp2
  go_ret2
  exact ⟨rfl, rfl⟩
theorem read_at (w : World) (F : Nat → Prop) (g : Nat) (s : Dk.St) (i : Int) (h : DskAt w F g s) (hne : Dk.atE s i ≠ 0) : Calls Try.prog 47 #[.pointer (some ⟨g, 0, none⟩), .int .i64 i] w fun e w' => e = .returned (.tuple #[.slice none 0 0, .int .i64 (Dk.atE s i)]) ∧ w' = w := by
  have hat := at_any w F g s i h
  obtain ⟨x, hx⟩ : ∃ x, Dk.atE s i = x := ⟨_, rfl⟩
  rw [hx] at hat hne ⊢
  have hb : (x != 0) = true := by simpa using hne
  have HAT := Lib.hid hat
  clear hat hx h
  go_enter Try.func47, Try.ntmps47
  go_wp2_with fail
  refine HAT.out.mono ?_
  rintro e w1 ⟨rfl, h1⟩
  obtain rfl : w = w1 := h1.symm
  go_wp2
  go_ret2
  exact ⟨rfl, rfl⟩
set_option maxRecDepth 100000 in
set_option maxHeartbeats 4000000 in
theorem read_ok (w : World) (F : Nat → Prop) (g : Nat) (s : Dk.St) (h : DskAt w F g s) (i : Nat) (hi : i < s.n) (hd : s.dead = false) :
    Calls Try.prog 47 #[.pointer (some ⟨g, 0, none⟩), .int .i64 (i : Int)] w fun e w' => e = .returned (.tuple #[.slice (some ⟨w.heap.size, 0, none⟩) 256 256, .int .i64 0]) ∧ Row w' w.heap.size 78 (bvs (Dk.rd s i)) ∧ Keeps (fun _ => False) w w' := by
  have hat := at_any w F g s i h
  have hne : Dk.atE s (i : Int) = 0 := by unfold Dk.atE; rw [hd, if_neg (by decide), if_neg (by omega)]
  rw [hne] at hat
  obtain ⟨gb, lb, A, c, gf, lf, hD⟩ := h
  have hold := hD.ok.good i
  obtain ⟨Z, hZ⟩ : ∃ Z, (bvs Dk.nought).toArray = Z := ⟨_, rfl⟩
  obtain ⟨OB, hOB⟩ : ∃ L, bvs (s.good i) = L := ⟨_, rfl⟩
  have hzs : Z.size = 256 := by rw [← hZ, List.size_toArray, bvs_length]; unfold Dk.nought; exact List.length_replicate
  have hol : OB.length = 256 := by rw [← hOB, bvs_length, hold]
  have hz : ∀ V : World, (zeroValue 78).run Try.prog V = .ok (.agg Z) V := fun V => by rw [← hZ]; exact zero_block V
  have hal : ∀ V : World, (Instr.alloc 78 true (.tuple #[])).run Try.prog V = .ok (.pointer (some ⟨V.heap.size, 0, none⟩)) (V.alloc (.cells Z 78)) := fun V => by go_simp
  have hlk : (gf (i : Int)).getD (.agg Z) = .agg OB.toArray := by rw [← hZ, ← hOB]; exact hD.gv i
  obtain ⟨W1, hW1⟩ : ∃ W, w.alloc (.cells Z 78) = W := ⟨_, rfl⟩
  obtain ⟨W2, hW2⟩ : ∃ W, W1.setRow w.heap.size OB.toArray = W := ⟨_, rfl⟩
  have k1 : Keeps (fun _ => False) w W1 := by rw [← hW1]; exact (Keeps.refl _ _).alloc _
  have r1 : W1.heap[w.heap.size]? = some (.cells Z 78 (0, 0)) := by rw [← hW1]; exact heap_alloc_new w _
  have r2 : W2.heap[w.heap.size]? = some (.cells OB.toArray 78 (0, 0)) := by rw [← hW2]; exact setRow_heap _ _ _ _ _ _ r1
  have k2 : Keeps (fun _ => False) w W2 := k1.trans' (T := fun k => k = w.heap.size) (by rw [← hW2]; exact Keeps.setRow _ _) (fun i hi e => by omega)
  have D2 := hD.later k2
  have SOB : Hid ((Try.prog.info? 78).map (·.size) = some OB.toArray.size) := Lib.hid (by rw [List.size_toArray, hol]; exact size_block)
  have ZOB : Hid (Z.size = OB.toArray.size) := Lib.hid (by rw [hzs, List.size_toArray, hol])
  have OOB : Hid (OB.toArray.all (·.oneCell') = true) := Lib.hid (by rw [← hOB]; exact bvs_all _)
  have HZ := Lib.hid hz
  have HLK := Lib.hid hlk
  have HG1 := Lib.hid hD.good
  have HL2 := Lib.hid D2.last
  have R1 := Lib.hid r1
  have R2 := Lib.hid r2
  have K2 := Lib.hid k2
  have HAT := Lib.hid hat
  have c1 : w.cell? ⟨g, 1, none⟩ = some (.map (some gb)) := hD.row.cell 1
  have c3 : W2.cell? ⟨g, 3, none⟩ = some (.map (some lb)) := D2.row.cell 3
  have c2 : W2.cell? ⟨g, 2, none⟩ = some (.slice A s.loose.length c) := D2.row.cell 2
  rcases hD.lv i with ⟨hl1, hl2⟩ | ⟨k, p, hl1, hl2, hl3⟩
  · have HLV : Hid ((lf (i : Int)).getD (.int .i64 0) = .int .i64 0) := Lib.hid (by rw [hl1]; rfl)
    have HLQ : Hid ((lf (i : Int)).isSome = false) := Lib.hid (by rw [hl1]; rfl)
    have HRD : Hid (bvs (Dk.rd s i) = OB) := Lib.hid (by unfold Dk.rd; rw [hl2, hOB])
    clear hat hlk hD D2 r1 r2 k1 k2 hl1 hl2 hold hol hzs hZ hOB hne
    go_enter Try.func47, Try.ntmps47
    go_wp2_with fail
    refine HAT.out.mono ?_
    rintro e w1 ⟨rfl, h1⟩
    obtain rfl : w = w1 := h1.symm
    clear HAT
    go_wp2_with (first
      | (refine wpList_map_look (by rfl) (.tmp 19) (.tmp 20) 55 3 78 (by rfl) Try.underlying55 Try.underlying3 (.agg Z) HZ.out gb gf (i : Int) (.agg OB.toArray) (by rfl) (by rfl) HG1.out HLK.out ?_)
      | (refine wpList_store_row (by rfl) 78 _ _ rfl w.heap.size OB.toArray rfl rfl 78 Z R1.out SOB.out ZOB.out OOB.out ?_; rw [hW2])
      | (refine wpList_map_look_ok (by rfl) (.tmp 26) (.tmp 27) 56 3 3 (by rfl) Try.underlying56 Try.underlying3 (.int .i64 0) zero_int lb lf (i : Int) (.int .i64 0) false (by rfl) (by rfl) HL2.out HLV.out HLQ.out ?_))
    go_ret2
    exact ⟨rfl, by rw [HRD.out]; exact R2.out, K2.out⟩
  · obtain ⟨a, hA⟩ : ∃ a, A = some a := by
      have h1 := hD.own.2
      have hlt := (List.getElem?_eq_some_iff.1 hl2).1
      rcases h1 with ⟨h1, _⟩ | ⟨gr, cap, cur, h1, _⟩
      · injection h1 with _ h2; omega
      · injection h1 with h1; exact ⟨_, h1⟩
    obtain ⟨gr, hgr⟩ : ∃ gr, a = ⟨gr, 0, none⟩ := by
      have h1 := hD.own.2
      have hlt := (List.getElem?_eq_some_iff.1 hl2).1
      rcases h1 with ⟨h1, _⟩ | ⟨gr, cap, cur, h1, _⟩
      · injection h1 with _ h2; omega
      · injection h1 with h1; rw [hA] at h1; injection h1 with h1; exact ⟨gr, h1⟩
    subst hA
    subst hgr
    have hp := hD.ok.loose p (List.mem_of_getElem? hl2)
    have hkl := (List.getElem?_eq_some_iff.1 hl2).1
    obtain ⟨NB, hNB⟩ : ∃ L, bvs p.2 = L := ⟨_, rfl⟩
    have hnl : NB.length = 256 := by rw [← hNB, bvs_length, hp.2]
    have hrg : W2.rangeAt gr (k * 257 + 1) NB := fun j v hv => by
      have hh := flatW_get s.loose k p (j + 1) v (fun q hq => (hD.ok.loose q hq).2) hl2 (by unfold wcells; rw [List.getElem?_cons_succ, hNB]; exact hv)
      have := D2.own.cells (g := gr) rfl _ _ hh
      rw [show k * 257 + 1 + j = k * 257 + (j + 1) by omega]
      simpa [add_plain] using this
    have HLV : Hid ((lf (i : Int)).getD (.int .i64 0) = .int .i64 (k : Int)) := Lib.hid (by rw [hl1]; rfl)
    have HLQ : Hid ((lf (i : Int)).isSome = true) := Lib.hid (by rw [hl1]; rfl)
    have HRD : Hid (bvs (Dk.rd s i) = NB) := Lib.hid (by unfold Dk.rd; rw [← hl3, hNB])
    have HRG := Lib.hid hrg
    have SNB : Hid ((Try.prog.info? 78).map (·.size) = some NB.length) := Lib.hid (by rw [hnl]; exact size_block)
    have SNB' : Hid ((Try.prog.info? 78).map (·.size) = some NB.toArray.size) := Lib.hid (by rw [List.size_toArray, hnl]; exact size_block)
    have ZNB : Hid (OB.toArray.size = NB.toArray.size) := Lib.hid (by rw [List.size_toArray, List.size_toArray, hnl, hol])
    have ONB : Hid (NB.toArray.all (·.oneCell') = true) := Lib.hid (by rw [← hNB]; exact bvs_all _)
    obtain ⟨W3, hW3⟩ : ∃ W, W2.setRow w.heap.size NB.toArray = W := ⟨_, rfl⟩
    have R3 : Hid (W3.heap[w.heap.size]? = some (.cells NB.toArray 78 (0, 0))) := Lib.hid (by rw [← hW3]; exact setRow_heap _ _ _ _ _ _ r2)
    have K3 : Hid (Keeps (fun _ => False) w W3) := Lib.hid (k2.trans' (T := fun k => k = w.heap.size) (by rw [← hW3]; exact Keeps.setRow _ _) (fun i hi e => by omega))
    obtain ⟨n, hn⟩ : ∃ n, s.loose.length = n := ⟨_, rfl⟩
    rw [hn] at c2 hkl
    have hki : (k : Int) < (n : Int) := by omega
    clear hat hlk hD D2 r1 r2 k1 k2 hl1 hl2 hl3 hold hol hzs hZ hOB hne hrg hnl hNB hn hp
    go_enter Try.func47, Try.ntmps47
    go_wp2_with fail
    refine HAT.out.mono ?_
    rintro e w1 ⟨rfl, h1⟩
    obtain rfl : w = w1 := h1.symm
    clear HAT
    go_wp2_with (first
      | (refine wpList_map_look (by rfl) (.tmp 19) (.tmp 20) 55 3 78 (by rfl) Try.underlying55 Try.underlying3 (.agg Z) HZ.out gb gf (i : Int) (.agg OB.toArray) (by rfl) (by rfl) HG1.out HLK.out ?_)
      | (refine wpList_store_row (by rfl) 78 _ _ rfl w.heap.size OB.toArray rfl rfl 78 Z R1.out SOB.out ZOB.out OOB.out ?_; rw [hW2])
      | (refine wpList_map_look_ok (by rfl) (.tmp 26) (.tmp 27) 56 3 3 (by rfl) Try.underlying56 Try.underlying3 (.int .i64 0) zero_int lb lf (i : Int) (.int .i64 (k : Int)) true (by rfl) (by rfl) HL2.out HLV.out HLQ.out ?_)
      | (refine wpList_load_mid (by rfl) 78 (.tmp 38) (by rfl) gr (k * 257 + 1) (by rfl) NB _ HRG.out Try.underlying78 rfl SNB.out ?_)
      | (refine wpList_store_row (by rfl) 78 _ _ rfl w.heap.size NB.toArray rfl rfl 78 OB.toArray R2.out SNB'.out ZNB.out ONB.out ?_; rw [hW3]))
    go_ret2
    exact ⟨rfl, by rw [HRD.out]; exact R3.out, K3.out⟩
end Go.Proofs.Ytnhegnncmjmafaa
