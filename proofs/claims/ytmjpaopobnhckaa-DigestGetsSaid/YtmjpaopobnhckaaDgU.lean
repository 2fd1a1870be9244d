/-
  The document's own digest of bytes.
-/
import Derived.Test.YtmjpaopobnhckaaDgT
namespace Go.Proofs.Ytmjpaopobnhckaa
open Go.RowKit Go.BigFrame
set_option linter.unusedVariables false
set_option linter.unusedSimpArgs false

theorem build_D0 (V : World) : (Instr.build 28 #[]).run Try.prog V = .ok (.agg (dcs (.slice none 0 0) (.slice none 0 0))) V := by kernel_rfl
theorem build_R (s : ByteArray) (V : World) : (Instr.build 76 #[(0, .string s)]).run Try.prog V = .ok (.agg #[.string s, .int .i64 0]) V := by kernel_rfl
theorem build_K0 (V : World) : (Instr.build 54 #[]).run Try.prog V = .ok (.agg (kcs (0, List.replicate 32 0)).toArray) V := by kernel_rfl
theorem zero_R (V : World) : (zeroValue 76).run Try.prog V = .ok (.agg (RVc ([], 0))) V := by kernel_rfl
theorem zero_K (V : World) : (zeroValue 54).run Try.prog V = .ok (.agg (kcs (0, List.replicate 32 0)).toArray) V := by kernel_rfl
/-- What is told of Get. -/
def GetSaid (l : List UInt8) (w : World) (e : Ending) (w' : World) : Prop := ∃ (A : Option Addr) (c : Nat) (A2 : Option Addr) (c2 : Nat), e = .returned (.tuple #[.agg (dcs (.slice A (Dg.get l).1.length c) (.slice A2 (Dg.get l).2.1.length c2)), .int .i64 (Dg.get l).2.2]) ∧ Keeps (fun _ => False) w w' ∧ LK w' A (Dg.get l).1.length c (Dg.get l).1 ∧ LH w' A2 (Dg.get l).2.1.length c2 (Dg.get l).2.1
theorem getsaid_none {l : List UInt8} {w w' : World} {x : Int} (h : Dg.get l = ([], [], x)) (k : Keeps (fun _ => False) w w') : GetSaid l w (.returned (.tuple #[.agg (dcs (.slice none 0 0) (.slice none 0 0)), .int .i64 x])) w' := by
  unfold GetSaid
  rw [h]
  exact ⟨none, 0, none, 0, rfl, k, IsList.empty _ _ _ _, IsList.empty _ _ _ _⟩
theorem keeps_setCells19 {S : Nat → Prop} {w : World} (g : Nat) (hS : S g) : ∀ (vs : List Value) (o : Nat) (w' : World), Keeps S w w' → Keeps S w (w'.setCells g o vs)
  | [], _, _, h => h
  | v :: vs, o, w', h => keeps_setCells19 g hS vs (o + 1) _ (h.setCell (p := ⟨g, o, none⟩) (fun _ => hS) v)
theorem key_setCells {w : World} {g x : Nat} {hv zs : List UInt8} (h : Row w g 54 (.int .u64 (x : Int) :: bvs zs)) (hz : zs.length = hv.length) : Row (w.setCells g 1 (bvs hv)) g 54 (kcs (x, hv)) :=
  Row.setCells (bvs hv) w [.int .u64 (x : Int)] (bvs zs) 1 h rfl (by rw [bvs_length, bvs_length, hz])
set_option maxRecDepth 100000 in
set_option maxHeartbeats 8000000 in
theorem rget_any (w : World) (l : List UInt8) (hl : l.length ≤ 600) :
    Calls Try.prog 23 #[.string (strOf l)] w (GetSaid l w) := by
  obtain ⟨Z, hZ⟩ : ∃ Z, dcs (.slice none 0 0) (.slice none 0 0) = Z := ⟨_, rfl⟩
  have hz : ∀ V : World, (zeroValue 28).run Try.prog V = .ok (.agg Z) V := fun V => by rw [← hZ]; exact zero_D V
  obtain ⟨ZR, hZR⟩ : ∃ Z, RVc ([], 0) = Z := ⟨_, rfl⟩
  have hzr : ∀ V : World, (zeroValue 76).run Try.prog V = .ok (.agg ZR) V := fun V => by rw [← hZR]; exact zero_R V
  have SZ : Hid ((Try.prog.info? 28).map (·.size) = some Z.size) := Lib.hid (by rw [← hZ]; exact size_D _ _)
  have OZ : Hid (Z.all (·.oneCell') = true) := Lib.hid (by rw [← hZ]; exact dcs_one _ _ _ _ _ _)
  have HBD : Hid (∀ V : World, (Instr.build 28 #[]).run Try.prog V = .ok (.agg Z) V) := Lib.hid (fun V => by rw [← hZ]; exact build_D0 V)
  obtain ⟨b1, hb1⟩ : ∃ x, w.heap.size = x := ⟨_, rfl⟩
  obtain ⟨W1, hW1⟩ : ∃ V, w.alloc (.cells Z 28) = V := ⟨_, rfl⟩
  obtain ⟨b2, hb2⟩ : ∃ x, W1.heap.size = x := ⟨_, rfl⟩
  obtain ⟨W2, hW2⟩ : ∃ V, W1.alloc (.cells Z 28) = V := ⟨_, rfl⟩
  obtain ⟨W3, hW3⟩ : ∃ V, W2.setRow b2 Z = V := ⟨_, rfl⟩
  have k1 : Keeps (fun _ => False) w W1 := by rw [← hW1]; exact (Keeps.refl _ _).alloc _
  have k2 : Keeps (fun _ => False) W1 W2 := by rw [← hW2]; exact (Keeps.refl _ _).alloc _
  have k3 : Keeps (fun j => j = b2) W2 W3 := by rw [← hW3]; exact Keeps.setRow _ _
  have h12 : b1 < b2 := by rw [← hb2, ← hW1, ← hb1]; simp
  have h2s : b2 < W2.heap.size := by rw [← hb2, ← hW2]; simp
  have r1 : W3.heap[b1]? = some (.cells Z 28 (0, 0)) := by
    rw [k3.block b1 (by omega) (by omega), k2.block b1 (by omega) id, ← hW1, ← hb1]; exact heap_alloc_new w _
  have r2 : W2.heap[b2]? = some (.cells Z 28 (0, 0)) := by rw [← hW2, ← hb2]; exact heap_alloc_new W1 _
  have r3 : W3.heap[b2]? = some (.cells Z 28 (0, 0)) := by rw [← hW3]; exact setRow_heap _ _ _ _ _ _ r2
  have R2 := Lib.hid r2
  have R13 := Lib.hid (And.intro r1 (And.intro r3 (And.intro h12 (Nat.lt_of_lt_of_le h2s k3.size))))
  have K3 : Hid (Keeps (fun _ => False) w W3) := Lib.hid ((k1.trans k2).trans' k3 (fun j hj e => by omega))
  obtain ⟨C0, hC0⟩ : ∃ C, RVc (l, 0) = C := ⟨_, rfl⟩
  obtain ⟨S0, hS0⟩ : ∃ S, strOf l = S := ⟨_, rfl⟩
  have HBR : Hid (∀ V : World, (Instr.build 76 #[(0, .string S0)]).run Try.prog V = .ok (.agg C0) V) := Lib.hid (fun V => by rw [← hC0, ← hS0]; exact build_R _ V)
  have HRN := Lib.hid (num_read 1 (l, 0) W3 (by show l.length ≤ _; omega))
  obtain ⟨nn, hnn⟩ : ∃ n, (rnum 1 (l, 0)).2.toNat = n := ⟨_, rfl⟩
  have q1 := Dg.rnum1_nat (l, 0)
  rw [hnn] at q1
  have HL := Lib.hid hl
  obtain ⟨s1, hs1⟩ : ∃ s, (rnum ((1 : Nat) : Int) (l, 0)).1 = s := ⟨_, rfl⟩
  have hs1l : s1.1.length ≤ 600 := by rw [← hs1]; exact Nat.le_trans (rnum_left _ _) hl
  have HS1 := Lib.hid (And.intro hs1 (And.intro hs1l (And.intro hnn q1)))
  rw [hC0, hs1, show (rnum ((1 : Nat) : Int) (l, 0)).2 = (nn : Int) from q1.1.symm] at HRN
  have HC0 := Lib.hid (And.intro hC0 hS0)
  have hnn255 := q1.2
  have HZ := Lib.hid (And.intro hZ hZR)
  rw [hS0]
  clear hZ hZR k1 k2 k3 h12 h2s r1 r2 r3 hC0 hS0 hnn q1 hs1 hs1l hl
  go_enter Try.func23, Try.ntmps23
  go_wp2_with (first
    | (refine wpList_made (by rfl) 28 [] (by rfl) [] (by rfl) (.agg Z) HBD.out ?_)
    | (refine wpList_made (by rfl) 76 [(0, .tmp 17)] (by rfl) [(0, .string S0)] (by rfl) (.agg C0) HBR.out ?_)
    | (refine wpList_store_row (by rfl) 28 _ _ (by rfl) b2 Z (by rfl) (by rfl) 28 Z R2.out SZ.out rfl OZ.out ?_; rw [hW3])
    | fail)
  refine HRN.out.mono ?_
  rintro e w4 ⟨rfl, k4⟩
  obtain ⟨b3, hb3⟩ : ∃ x, w4.heap.size = x := ⟨_, rfl⟩
  obtain ⟨W5, hW5⟩ : ∃ V, w4.alloc (.cells ZR 76) = V := ⟨_, rfl⟩
  obtain ⟨CR, hCR⟩ : ∃ C, RVc s1 = C := ⟨_, rfl⟩
  obtain ⟨W6, hW6⟩ : ∃ V, W5.setRow b3 CR = V := ⟨_, rfl⟩
  have k5 : Keeps (fun _ => False) w4 W5 := by rw [← hW5]; exact (Keeps.refl _ _).alloc _
  have k6 : Keeps (fun j => j = b3) W5 W6 := by rw [← hW6]; exact Keeps.setRow _ _
  have hs5 : W5.heap.size = b3 + 1 := by rw [← hW5, ← hb3]; simp
  have hs6 : W6.heap.size = b3 + 1 := by rw [← hW6]; simpa [World.setRow] using hs5
  obtain ⟨r1, r3, h12, h2s⟩ := R13.out
  have h2b : b2 < b3 := by rw [← hb3]; exact Nat.lt_of_lt_of_le h2s k4.size
  have r5 : W5.heap[b3]? = some (.cells ZR 76 (0, 0)) := by rw [← hW5, ← hb3]; exact heap_alloc_new w4 _
  have SR : Hid ((Try.prog.info? 76).map (·.size) = some CR.size) := Lib.hid (by rw [← hCR]; exact size_RVc _)
  have SZR : Hid (ZR.size = CR.size) := Lib.hid (by rw [← hCR, ← HZ.out.2]; rfl)
  have OR : Hid (CR.all (·.oneCell') = true) := Lib.hid (by rw [← hCR]; exact RVc_one _)
  have r13 : W6.heap[b1]? = some (.cells Z 28 (0, 0)) := by
    rw [k6.block b1 (by omega) (by omega), k5.block b1 (by omega) id, k4.block b1 (by omega) id]; exact r1
  have g0 : Gk W6 W6 (b3 + 1) b2 b3 s1 (.slice none 0 0) (.slice none 0 0) [] [] := by
    refine ⟨?_, ?_, World.ownsRow_nil _ _ _ _, World.ownsRow_nil _ _ _ _, Keeps.refl _ _, h2b, by omega, by omega⟩
    · rw [hCR, ← hW6]; exact setRow_heap _ _ _ _ _ _ r5
    · show W6.heap[b2]? = _
      rw [k6.block b2 (by omega) (by omega), k5.block b2 (by omega) id, k4.block b2 (by omega) id, r3, ← HZ.out.1]; rfl
  have K6 : Hid (Keeps (fun _ => False) w W6) := Lib.hid ((((K3.out.trans k4).trans k5)).trans' k6 (fun j hj e => by have := K3.out.size; have := k4.size; omega))
  have G0 := Lib.hid g0
  have c1 : W6.cell? ⟨b3, 1, none⟩ = some (.int .i64 s1.2) := by
    have h : Row W6 b3 76 [.string (strOf s1.1), .int .i64 s1.2] := g0.r
    exact h.cell 1
  have R5 := Lib.hid (And.intro r5 r13)
  have HB := Lib.hid (And.intro h12 (And.intro h2b hs6))
  have HCR := Lib.hid hCR
  have hb1s : b1 < b3 := by omega
  obtain ⟨s1e, hs1e⟩ : ∃ e, s1.2 = e := ⟨_, rfl⟩
  rw [hs1e] at c1
  have HE := Lib.hid hs1e
  clear g0 r13 r5 k5 k6 hs5 hs6 r1 r3 h12 h2s h2b K3 R13 R2 HRN HBR HC0 k4 hs1e
  rw [hCR]
  by_cases hbig : s1e = 0 ∧ 32 < nn
  · have hbi : (s1e == 0) = true := by rw [hbig.1]; rfl
    have hni : (32 : Int) < (nn : Int) := by omega
    have HG : Hid (Dg.get l = ([], [], 13)) := Lib.hid (by
      unfold Dg.get
      have e1 : (rnum 1 (l, 0)).1 = s1 := HS1.out.1
      have e2 := HS1.out.2.2.2.1
      rw [if_pos ⟨by rw [e1, HE.out]; exact hbig.1, by rw [← e2]; exact hni⟩])
    obtain ⟨W7, hW7⟩ : ∃ V, W6.setRow b1 Z = V := ⟨_, rfl⟩
    have R7 : Hid (W7.heap[b1]? = some (.cells Z 28 (0, 0))) := Lib.hid (by rw [← hW7]; exact setRow_heap _ _ _ _ _ _ R5.out.2)
    have K7 : Hid (Keeps (fun _ => False) w W7) := Lib.hid (K6.out.trans' (T := fun j => j = b1) (by rw [← hW7]; exact Keeps.setRow _ _) (fun j hj e => by omega))
    go_wp2_with (first
      | (refine wpList_store_row (by rfl) 76 _ _ (by rfl) b3 CR (by rfl) (by rfl) 76 ZR R5.out.1 SR.out SZR.out OR.out ?_; rw [hW6])
      | (refine wpList_made (by rfl) 28 [] (by rfl) [] (by rfl) (.agg Z) HBD.out ?_)
      | (refine wpList_store_row (by rfl) 28 _ _ (by rfl) b1 Z (by rfl) (by rfl) 28 Z R5.out.2 SZ.out rfl OZ.out ?_; rw [hW7])
      | fail)
    refine bodyPost_ret (results_cell_tmp rfl _ _ b1 28 Z (0, 0) _ rfl R7.out Try.underlying28 rfl SZ.out) rfl ?_
    rw [← HZ.out.1]
    exact getsaid_none HG.out K7.out
  · by_cases hse : s1e = 0
    · have hbi : (s1e == 0) = true := by rw [hse]; rfl
      have hni : ¬ (32 : Int) < (nn : Int) := by omega
      go_wp2_with (first
        | (refine wpList_store_row (by rfl) 76 _ _ (by rfl) b3 CR (by rfl) (by rfl) 76 ZR R5.out.1 SR.out SZR.out OR.out ?_; rw [hW6])
        | fail)
      go_loopw [8] (fun iv wr => ∃ (i : Nat) (A3 : Option Addr) (c3 : Nat), i ≤ nn ∧ iv = .int .i64 (i : Int) ∧ Hid (Gk W6 wr (b3 + 1) b2 b3 (Dg.rkeys i s1).1 (.slice A3 i c3) (.slice none 0 0) (Dg.rkeys i s1).2 [])) (fun iv _ => nn - (intOf iv).toNat)
      case atStart => exact ⟨0, none, 0, by omega, rfl, G0⟩
      case round =>
        clear G0 hW6 c1
        obtain ⟨i, A3, c3, hi, rfl, HG⟩ := hrel
        have hil := Dg.rkeys_length i s1
        have hok := Dg.rkeys_ok i s1
        have hleft := Nat.le_trans (Dg.rkeys_left i s1) HS1.out.2.1
        by_cases hlt : i < nn
        · have hii : (i : Int) < (nn : Int) := by omega
          have hstep : Dg.rkeys (i + 1) s1 = ((Dg.rkey (Dg.rkeys i s1).1).1, (Dg.rkeys i s1).2 ++ [(Dg.rkey (Dg.rkeys i s1).1).2]) := rfl
          obtain ⟨s, hs⟩ : ∃ s, (Dg.rkeys i s1).1 = s := ⟨_, rfl⟩
          obtain ⟨ks, hks⟩ : ∃ k, (Dg.rkeys i s1).2 = k := ⟨_, rfl⟩
          rw [hs, hks] at hstep HG
          rw [hks] at hil
          rw [hs] at hleft
          have hx := Dg.rnum8_nat s
          have hrk : Dg.rkey s = ((rhash (rnum 8 s).1).1, ((rnum 8 s).2.toNat, (rhash (rnum 8 s).1).2)) := rfl
          have hal : (rnum 8 s).1.1.length ≤ 600 := Nat.le_trans (rnum_left 8 s) hleft
          have hhl := Dg.rhash_length (rnum 8 s).1
          have hrd1 := fun V => num_read 8 s V (by omega)
          rw [show ((8 : Nat) : Int) = 8 from rfl] at hrd1
          have hrd2 := fun V => raw_read (rnum 8 s).1 V (by omega)
          have hrd3 := fun V => hash_read (rnum 8 s).1 V
          rw [← hx.1] at hrd1
          obtain ⟨x, hxe⟩ : ∃ x, (rnum 8 s).2.toNat = x := ⟨_, rfl⟩
          obtain ⟨sa, hsa⟩ : ∃ x, (rnum 8 s).1 = x := ⟨_, rfl⟩
          rw [hsa] at hrd1 hrd2 hrd3 hrk hal hhl
          rw [hxe] at hrd1 hrk hx
          obtain ⟨sb, hsb⟩ : ∃ x, (rhash sa).1 = x := ⟨_, rfl⟩
          obtain ⟨hv, hhv⟩ : ∃ x, (rhash sa).2 = x := ⟨_, rfl⟩
          rw [hsb] at hrd2 hrk
          rw [hhv] at hrd3 hrk hhl
          rw [hrk] at hstep
          have hkok : Ft.Key.Ok (x, hv) := ⟨hx.2, hhl⟩
          have HST : Hid (Dg.rkeys (i + 1) s1 = (sb, ks ++ [(x, hv)])) := Lib.hid hstep
          obtain ⟨ST, hST⟩ : ∃ x, strOf (tk 32 sa).2 = x := ⟨_, rfl⟩
          rw [hST] at hrd2 hrd3
          obtain ⟨Cs, hCs⟩ : ∃ x, RVc s = x := ⟨_, rfl⟩
          obtain ⟨Ca, hCa⟩ : ∃ x, RVc sa = x := ⟨_, rfl⟩
          obtain ⟨Cb, hCb⟩ : ∃ x, RVc sb = x := ⟨_, rfl⟩
          have sCs : (Try.prog.info? 76).map (·.size) = some Cs.size := by rw [← hCs]; exact size_RVc _
          have sCa : (Try.prog.info? 76).map (·.size) = some Ca.size := by rw [← hCa]; exact size_RVc _
          have sCb : (Try.prog.info? 76).map (·.size) = some Cb.size := by rw [← hCb]; exact size_RVc _
          have sab : Cs.size = Ca.size := by rw [← hCs, ← hCa]; rfl
          have sbc : Ca.size = Cb.size := by rw [← hCb, ← hCa]; rfl
          have oa : Ca.all (·.oneCell') = true := by rw [← hCa]; exact RVc_one _
          have ob : Cb.all (·.oneCell') = true := by rw [← hCb]; exact RVc_one _
          rw [hCs, hCa] at hrd1
          rw [hCa, hCb] at hrd2
          obtain ⟨ZK, hZK⟩ : ∃ x, (kcs (0, List.replicate 32 0)).toArray = x := ⟨_, rfl⟩
          have hzk : ∀ V : World, (zeroValue 54).run Try.prog V = .ok (.agg ZK) V := fun V => by rw [← hZK]; exact zero_K V
          have SZK : Hid ((Try.prog.info? 54).map (·.size) = some ZK.size) := Lib.hid (by rw [← hZK, List.size_toArray, kcs_length (by simp)]; exact info_k)
          have OZK : Hid (ZK.all (·.oneCell') = true) := Lib.hid (by rw [← hZK, Array.all_eq_true_iff_forall_mem]; intro v hv; exact kcs_one _ v (by simpa using hv))
          have HBK : Hid (∀ V : World, (Instr.build 54 #[]).run Try.prog V = .ok (.agg ZK) V) := Lib.hid (fun V => by rw [← hZK]; exact build_K0 V)
          obtain ⟨bk, hbk⟩ : ∃ x, wr.heap.size = x := ⟨_, rfl⟩
          obtain ⟨V1, hV1⟩ : ∃ V, wr.alloc (.cells ZK 54) = V := ⟨_, rfl⟩
          obtain ⟨V2, hV2⟩ : ∃ V, V1.setRow bk ZK = V := ⟨_, rfl⟩
          have k1 : Keeps (fun _ => False) wr V1 := by rw [← hV1]; exact (Keeps.refl _ _).alloc _
          have k2 : Keeps (fun j => j = bk) V1 V2 := by rw [← hV2]; exact Keeps.setRow _ _
          have r1 : V1.heap[bk]? = some (.cells ZK 54 (0, 0)) := by rw [← hV1, ← hbk]; exact heap_alloc_new wr _
          have r2 : V2.heap[bk]? = some (.cells ZK 54 (0, 0)) := by rw [← hV2]; exact setRow_heap _ _ _ _ _ _ r1
          have hbB : b3 + 1 ≤ bk := by rw [← hbk]; exact HG.out.lt.2.2
          have hown : (Value.slice A3 i c3).ownBlock ≠ some bk := fun e => by have := (HG.out.own bk (.inl e)).2; omega
          have hS : ∀ j, j = bk → b3 + 1 ≤ j ∧ (Value.slice A3 i c3).ownBlock ≠ some j ∧ (Value.slice none 0 0).ownBlock ≠ some j := fun j e => by subst e; exact ⟨hbB, hown, fun e => by cases e⟩
          have g2 := (HG.out.later k1).side k2 hS
          have hr2 : V2.heap[b3]? = some (.cells Cs 76 (0, 0)) := by rw [← hCs]; exact g2.r
          have R1 := Lib.hid r1
          have R2 := Lib.hid r2
          have G2 := Lib.hid g2
          have HR2 := Lib.hid hr2
          have HRD1 := Lib.hid (hrd1 V2)
          have HRD2 := Lib.hid hrd2
          have HRD3 := Lib.hid hrd3
          have HSZ := Lib.hid (And.intro sCs (And.intro sCa (And.intro sCb (And.intro sab (And.intro sbc (And.intro oa ob))))))
          have HCS := Lib.hid (And.intro hCs (And.intro hCa hCb))
          have HKO := Lib.hid (And.intro hkok (And.intro hhl hZK))
          have HS2 := Lib.hid (And.intro hbB hS)
          have HIL := Lib.hid hil
          clear hstep hs hks hil hok hleft hx hrk hal hhl hrd1 hrd2 hrd3 hxe hsa hsb hhv hkok hST hCs hCa hCb sCs sCa sCb sab sbc oa ob hZK k1 k2 r1 r2 hbB hown hS g2 hr2 HG
          go_wp2_with (first
            | (refine wpList_made (by rfl) 54 [] (by rfl) [] (by rfl) (.agg ZK) HBK.out ?_)
            | (refine wpList_store_row (by rfl) 54 _ _ (by rfl) bk ZK (by rfl) (by rfl) 54 ZK R1.out SZK.out rfl OZK.out ?_; rw [hV2])
            | (refine wpList_load_row (by rfl) 76 _ (by rfl) b3 (by rfl) 76 Cs (0, 0) _ HR2.out Try.underlying76 rfl HSZ.out.1 ?_)
            | fail)
          refine HRD1.out.mono ?_
          rintro e v3 ⟨rfl, k3⟩
          obtain ⟨V4, hV4⟩ : ∃ V, v3.setRow b3 Ca = V := ⟨_, rfl⟩
          obtain ⟨V5, hV5⟩ : ∃ V, V4.setCell ⟨bk, 0, none⟩ (.int .u64 (x : Int)) = V := ⟨_, rfl⟩
          have g3 := G2.out.later k3
          have g4 := g3.put sa
          rw [HCS.out.2.1, hV4] at g4
          have k4 : Keeps (fun j => j = b3) v3 V4 := by rw [← hV4]; exact Keeps.setRow _ _
          have hr3 : v3.heap[b3]? = some (.cells Cs 76 (0, 0)) := by rw [← HCS.out.1]; exact g3.r
          have hbkn : bk ≠ b3 := by have := HS2.out.1; omega
          have e4 : Row V4 bk 54 (kcs (0, List.replicate 32 0)) := by
            have e2 : Row V2 bk 54 (kcs (0, List.replicate 32 0)) := by unfold Row; rw [HKO.out.2.2]; exact R2.out
            exact (e2.keeps k3 id).keeps k4 hbkn
          have k5 : Keeps (fun j => j = bk) V4 V5 := by rw [← hV5]; exact (Keeps.refl (fun j => j = bk) V4).setCell (p := ⟨bk, 0, none⟩) (fun _ => rfl) _
          have e5 : Row V5 bk 54 (.int .u64 (x : Int) :: bvs (List.replicate 32 0)) := by rw [← hV5]; exact e4.set 0 _
          have g5 := g4.side k5 HS2.out.2
          have hr5 : V5.heap[b3]? = some (.cells Ca 76 (0, 0)) := by rw [← HCS.out.2.1]; exact g5.r
          have hc4 : V4.cell? ⟨bk, 0, none⟩ = some (.int .u64 0) := e4.cell 0
          have hf4 : V4.frozen? ⟨bk, 0, none⟩ = false := e4.frozen 0
          have HR3 := Lib.hid hr3
          have HR5 := Lib.hid hr5
          have G5 := Lib.hid g5
          have E5 := Lib.hid e5
          clear g3 g4 k4 hr3 e4 k5 e5 g5 hr5 k3 R1 R2 HR2 HRD1 hV1 hV2 G2
          go_wp2_with (first
            | (refine wpList_store_row (by rfl) 76 _ _ (by rfl) b3 Ca (by rfl) (by rfl) 76 Cs HR3.out HSZ.out.2.1 HSZ.out.2.2.2.1 HSZ.out.2.2.2.2.2.1 ?_; rw [hV4])
            | (refine wpList_load_row (by rfl) 76 _ (by rfl) b3 (by rfl) 76 Ca (0, 0) _ HR5.out Try.underlying76 rfl HSZ.out.2.1 ?_)
            | fail)
          refine (HRD2.out V5).mono ?_
          rintro e v6 ⟨rfl, k6⟩
          obtain ⟨V7, hV7⟩ : ∃ V, v6.setRow b3 Cb = V := ⟨_, rfl⟩
          have g6 := G5.out.later k6
          have g7 := g6.put sb
          rw [HCS.out.2.2, hV7] at g7
          have k7 : Keeps (fun j => j = b3) v6 V7 := by rw [← hV7]; exact Keeps.setRow _ _
          have hr6 : v6.heap[b3]? = some (.cells Ca 76 (0, 0)) := by rw [← HCS.out.2.1]; exact g6.r
          have e7 := (E5.out.keeps k6 id).keeps k7 hbkn
          have HR6 := Lib.hid hr6
          have G7 := Lib.hid g7
          have E7 := Lib.hid e7
          clear g6 g7 k7 hr6 e7 k6 HR3 HR5 G5 E5 hV4 hV5 hc4 hf4
          go_wp2_with (first
            | (refine wpList_store_row (by rfl) 76 _ _ (by rfl) b3 Cb (by rfl) (by rfl) 76 Ca HR6.out HSZ.out.2.2.1 HSZ.out.2.2.2.2.1 HSZ.out.2.2.2.2.2.2 ?_; rw [hV7])
            | fail)
          refine (HRD3.out V7).mono ?_
          rintro e v8 ⟨rfl, k8⟩
          obtain ⟨HV, hHV⟩ : ∃ L, (bvs hv).toArray = L := ⟨_, rfl⟩
          obtain ⟨V9, hV9⟩ : ∃ V, v8.setCells bk 1 HV.toList = V := ⟨_, rfl⟩
          have e8 := E7.out.keeps k8 id
          have t8 : v8.there bk 1 HV.size := by rw [← hHV, List.size_toArray, bvs_length, HKO.out.2.1]; exact there_row e8 1 32 (by simp [bvs_length])
          have s8 : (Try.prog.info? 52).map (·.size) = some HV.size := by rw [← hHV, List.size_toArray, bvs_length, HKO.out.2.1]; exact info_h
          have o8 : HV.all (·.oneCell') = true := by rw [← hHV, Array.all_eq_true_iff_forall_mem]; intro v hv; exact bvs_one _ v (by simpa using hv)
          have e9 : Row V9 bk 54 (kcs (x, hv)) := by rw [← hV9, ← hHV]; exact key_setCells e8 (by rw [HKO.out.2.1]; simp)
          have k9 : Keeps (fun j => j = bk) v8 V9 := by rw [← hV9]; exact keeps_setCells19 (S := fun j => j = bk) bk rfl _ _ _ (Keeps.refl _ _)
          have g9 := (G7.out.later k8).side k9 HS2.out.2
          have hc9 : V9.cell? ⟨b2, 0, none⟩ = some (.slice A3 i c3) := g9.d.cell 0
          have hlt9 := g9.lt
          obtain ⟨KL, hKL⟩ : ∃ L, kcs (x, hv) = L := ⟨_, rfl⟩
          rw [hKL] at e9
          have hk33 : KL.length = 33 := by rw [← hKL]; exact kcs_len _ HKO.out.1
          have hk1 : ∀ u ∈ KL, u.oneCell' = true := by rw [← hKL]; exact kcs_one _
          have sKL : (Try.prog.info? 54).map (·.size) = some KL.toArray.size := by rw [List.size_toArray, hk33]; exact info_k
          obtain ⟨ih, zh, hih, hzh, hsh, hbh, hzsh⟩ := info_keys_in
          have HII := Lib.hid (And.intro hih (And.intro hzh (And.intro hsh (And.intro hbh hzsh))))
          have T8 := Lib.hid (And.intro t8 (And.intro s8 o8))
          have E9 := Lib.hid e9
          have G9 := Lib.hid g9
          have HKL := Lib.hid (And.intro hKL (And.intro hk33 (And.intro hk1 sKL)))
          have HOW : Hid ((V9.alloc (.cells KL.toArray 54)).ownsRow (b3 + 1) 54 33 (.slice A3 i c3) i (flt kcs ks)) := Lib.hid (by
            have h := (g9.later (W' := V9.alloc (.cells KL.toArray 54)) ((Keeps.refl _ _).alloc _)).k
            rwa [HIL.out] at h)
          have hB9 : b3 + 1 ≤ (V9.alloc (.cells KL.toArray 54)).heap.size := by simp; omega
          have HB9 := Lib.hid hB9
          have hi9 : i ≤ 255 := by omega
          clear e8 t8 s8 o8 e9 k9 g9 hlt9 hKL hk33 hk1 sKL hih hzh hsh hbh hzsh k8 HR6 G7 E7 hV7 hB9
          rw [hHV]
          go_wp2_with (first
            | (refine wpList_store_mid (by rfl) 52 _ _ (by rfl) bk 1 HV (by rfl) (by rfl) T8.out.1 T8.out.2.1 T8.out.2.2 ?_; rw [hV9])
            | (refine wpList_load_row (by rfl) 54 _ (by rfl) bk (by rfl) 54 KL.toArray (0, 0) _ E9.out Try.underlying54 rfl HKL.out.2.2.2 ?_)
            | (refine wpList_build1_19 (by rfl) 22 1 0 _ (by rfl) (.agg KL.toArray) _ (by rfl) (build_keys1 KL HKL.out.2.1 V9) ?_)
            | (refine wpList_append_own _ (by rfl) _ _ 22 (by rfl) (b3 + 1) 54 ih zh 33 40 Try.underlying22 HII.out.1 HII.out.2.1 HII.out.2.2.1 HII.out.2.2.2.1 HII.out.2.2.2.2 (by decide) (.slice A3 i c3) i (flt kcs ks) (by rfl) HOW.out ⟨V9.heap.size, 0, none⟩ 1 1 KL (by rfl) (by have := HKL.out.2.1; omega) (World.news_of_block (heap_alloc_new V9 _)) HKL.out.2.2.1 (by unfold maxLen; omega) (by omega) HB9.out ?_; intro v4 V10 ho4 hg4 _; have hd4 := G9.out.grownK hg4; have hp4 := G9.out.pushK (x := (x, hv)) (v := v4) (by rw [HIL.out, HKL.out.1]; exact ho4) hg4; obtain ⟨A4, c4, rfl⟩ := own_slice ho4; have hc10 : V10.cell? ⟨b2, 0, none⟩ = some (.slice A3 i c3) := hd4.cell 0; have hf10 : V10.frozen? ⟨b2, 0, none⟩ = false := hd4.frozen 0; have HP4 := Lib.hid hp4; clear ho4 hg4 hd4 hp4)
            | fail)
          go_roundw
          case rel => exact ⟨i + 1, A4, c4, by omega, by go_num, Lib.hid (by rw [HST.out]; exact HP4.out)⟩
          case measure => simp [intOf]; omega
        · obtain rfl : i = nn := by omega
          have hg1 : Dg.get l = Dg.get2 (Dg.rkeys i s1).2 (Dg.rkeys i s1).1 := by
            have e1 : (rnum 1 (l, 0)).1 = s1 := HS1.out.1
            have e2 := HS1.out.2.2.2.1
            unfold Dg.get
            rw [if_neg (fun h => hbig ⟨by have := h.1; rw [e1, HE.out] at this; exact this, by have := h.2; rw [← e2] at this; omega⟩), e1, HS1.out.2.2.1]
          obtain ⟨s2, hs2⟩ : ∃ s, (Dg.rkeys i s1).1 = s := ⟨_, rfl⟩
          obtain ⟨ks, hks⟩ : ∃ k, (Dg.rkeys i s1).2 = k := ⟨_, rfl⟩
          rw [hs2, hks] at hg1 HG
          rw [hks] at hil hok
          rw [hs2] at hleft
          have hrd := fun V => num_read 1 s2 V (by omega)
          rw [show ((1 : Nat) : Int) = 1 from rfl] at hrd
          have q2 := Dg.rnum1_nat s2
          have hcl := Nat.le_trans (rnum_left 1 s2) hleft
          have hg2 : Dg.get2 ks s2 = if (rnum 1 s2).1.2 = 0 ∧ 32 < (rnum 1 s2).2 then ([], [], 13) else
            if rend (Dg.rhs (rnum 1 s2).2.toNat (rnum 1 s2).1).1 = 0 then (ks, (Dg.rhs (rnum 1 s2).2.toNat (rnum 1 s2).1).2, 0) else ([], [], rend (Dg.rhs (rnum 1 s2).2.toNat (rnum 1 s2).1).1) := rfl
          rw [← hg1, ← q2.1] at hg2
          rw [← q2.1] at hrd
          obtain ⟨mm, hmm⟩ : ∃ x, (rnum 1 s2).2.toNat = x := ⟨_, rfl⟩
          rw [hmm] at hg2 hrd q2
          obtain ⟨sc, hsc⟩ : ∃ x, (rnum 1 s2).1 = x := ⟨_, rfl⟩
          rw [hsc] at hg2 hrd hcl
          have hmm255 := q2.2
          obtain ⟨C2, hC2⟩ : ∃ x, RVc s2 = x := ⟨_, rfl⟩
          obtain ⟨Cc, hCc⟩ : ∃ x, RVc sc = x := ⟨_, rfl⟩
          rw [hC2, hCc] at hrd
          obtain ⟨sce, hsce⟩ : ∃ e, sc.2 = e := ⟨_, rfl⟩
          rw [hsce] at hg2
          have SC2 : Hid ((Try.prog.info? 76).map (·.size) = some C2.size) := Lib.hid (by rw [← hC2]; exact size_RVc _)
          have SCc : Hid ((Try.prog.info? 76).map (·.size) = some Cc.size) := Lib.hid (by rw [← hCc]; exact size_RVc _)
          have SCD : Hid (C2.size = Cc.size) := Lib.hid (by rw [← hC2, ← hCc]; rfl)
          have OCc : Hid (Cc.all (·.oneCell') = true) := Lib.hid (by rw [← hCc]; exact RVc_one _)
          have HR0 : Hid (wr.heap[b3]? = some (.cells C2 76 (0, 0))) := Lib.hid (by rw [← hC2]; exact HG.out.r)
          have HRD := Lib.hid hrd
          have HG2 := Lib.hid hg2
          have HIL := Lib.hid (And.intro hil hok)
          have HCL := Lib.hid hcl
          have HCC := Lib.hid (And.intro hC2 (And.intro hCc hsce))
          clear hg1 hs2 hks hil hok hleft hrd q2 hcl hg2 hmm hsc hC2 hCc hsce
          go_wp2_with (first
            | (refine wpList_load_row (by rfl) 76 _ (by rfl) b3 (by rfl) 76 C2 (0, 0) _ HR0.out Try.underlying76 rfl SC2.out ?_)
            | fail)
          refine (HRD.out wr).mono ?_
          rintro e v1 ⟨rfl, k1⟩
          obtain ⟨V2, hV2⟩ : ∃ V, v1.setRow b3 Cc = V := ⟨_, rfl⟩
          have g1 := HG.out.later k1
          have g2 := g1.put sc
          rw [HCC.out.2.1, hV2] at g2
          have hr1 : v1.heap[b3]? = some (.cells C2 76 (0, 0)) := by rw [← HCC.out.1]; exact g1.r
          have c1 : V2.cell? ⟨b3, 1, none⟩ = some (.int .i64 sce) := by
            have h : Row V2 b3 76 [.string (strOf sc.1), .int .i64 sc.2] := g2.r
            rw [← HCC.out.2.2]; exact h.cell 1
          have HR1 := Lib.hid hr1
          have G2 := Lib.hid g2
          have hlt2 := g2.lt
          have r1b : V2.heap[b1]? = some (.cells Z 28 (0, 0)) := (g2.keep.block b1 (by have := HB.out.2.2; omega) (by have := HB.out.1; omega)).trans R5.out.2
          have R1B := Lib.hid r1b
          have K2 : Hid (Keeps (fun _ => False) w V2) := Lib.hid (K6.out.trans' g2.keep (fun j hj e => by have := HB.out.1; omega))
          clear g1 g2 hr1 k1 HR0 HRD HG hlt2 r1b
          by_cases hbig2 : sce = 0 ∧ 32 < mm
          · have hbi2 : (sce == 0) = true := by rw [hbig2.1]; rfl
            have hni2 : (32 : Int) < (mm : Int) := by omega
            have HGX : Hid (Dg.get l = ([], [], 13)) := Lib.hid (by rw [HG2.out, if_pos ⟨hbig2.1, hni2⟩])
            obtain ⟨W7, hW7⟩ : ∃ V, V2.setRow b1 Z = V := ⟨_, rfl⟩
            have R7 : Hid (W7.heap[b1]? = some (.cells Z 28 (0, 0))) := Lib.hid (by rw [← hW7]; exact setRow_heap _ _ _ _ _ _ R1B.out)
            have K7 : Hid (Keeps (fun _ => False) w W7) := Lib.hid (K2.out.trans' (T := fun j => j = b1) (by rw [← hW7]; exact Keeps.setRow _ _) (fun j hj e => by omega))
            go_wp2_with (first
              | (refine wpList_store_row (by rfl) 76 _ _ (by rfl) b3 Cc (by rfl) (by rfl) 76 C2 HR1.out SCc.out SCD.out OCc.out ?_; rw [hV2])
              | (refine wpList_made (by rfl) 28 [] (by rfl) [] (by rfl) (.agg Z) HBD.out ?_)
              | (refine wpList_store_row (by rfl) 28 _ _ (by rfl) b1 Z (by rfl) (by rfl) 28 Z R1B.out SZ.out rfl OZ.out ?_; rw [hW7])
              | fail)
            refine bodyPost_ret (results_cell_tmp rfl _ _ b1 28 Z (0, 0) _ rfl R7.out Try.underlying28 rfl SZ.out) rfl ?_
            rw [← HZ.out.1]
            exact getsaid_none HGX.out K7.out
          · have HGX : Hid (Dg.get l = if rend (Dg.rhs mm sc).1 = 0 then (ks, (Dg.rhs mm sc).2, 0) else ([], [], rend (Dg.rhs mm sc).1)) := Lib.hid (by rw [HG2.out, if_neg (fun h => hbig2 ⟨h.1, by have := h.2; omega⟩), Int.toNat_natCast])
            by_cases hse2 : sce = 0
            · have hbi2 : (sce == 0) = true := by rw [hse2]; rfl
              have hni2 : ¬ (32 : Int) < (mm : Int) := by omega
              go_wp2_with (first
                | (refine wpList_store_row (by rfl) 76 _ _ (by rfl) b3 Cc (by rfl) (by rfl) 76 C2 HR1.out SCc.out SCD.out OCc.out ?_; rw [hV2])
                | fail)
              go_loopw [12] (fun iv wr => ∃ (j : Nat) (A4 : Option Addr) (c4 : Nat), j ≤ mm ∧ iv = .int .i64 (j : Int) ∧ Hid (Gk W6 wr (b3 + 1) b2 b3 (Dg.rhs j sc).1 (.slice A3 i c3) (.slice A4 j c4) ks (Dg.rhs j sc).2)) (fun iv _ => mm - (intOf iv).toNat)
              case atStart => exact ⟨0, none, 0, by omega, rfl, G2⟩
              case round =>
                clear G2 hV2 c1 K2 R1B
                obtain ⟨j, A4, c4, hj, rfl, HG⟩ := hrel
                have hfl := Dg.rhs_length j sc
                have hfo := Dg.rhs_ok j sc
                have hleft := Nat.le_trans (Dg.rhs_left j sc) HCL.out
                by_cases hlt : j < mm
                · have hji : (j : Int) < (mm : Int) := by omega
                  have hstep : Dg.rhs (j + 1) sc = ((rhash (Dg.rhs j sc).1).1, (Dg.rhs j sc).2 ++ [(rhash (Dg.rhs j sc).1).2]) := rfl
                  obtain ⟨s, hs⟩ : ∃ s, (Dg.rhs j sc).1 = s := ⟨_, rfl⟩
                  obtain ⟨fs, hfs⟩ : ∃ k, (Dg.rhs j sc).2 = k := ⟨_, rfl⟩
                  rw [hs, hfs] at hstep HG
                  rw [hfs] at hfl
                  rw [hs] at hleft
                  have hhl := Dg.rhash_length s
                  have hrd2 := fun V => raw_read s V (by omega)
                  have hrd3 := fun V => hash_read s V
                  obtain ⟨sb, hsb⟩ : ∃ x, (rhash s).1 = x := ⟨_, rfl⟩
                  obtain ⟨hv, hhv⟩ : ∃ x, (rhash s).2 = x := ⟨_, rfl⟩
                  rw [hsb] at hrd2 hstep
                  rw [hhv] at hrd3 hstep hhl
                  have HST : Hid (Dg.rhs (j + 1) sc = (sb, fs ++ [hv])) := Lib.hid hstep
                  obtain ⟨ST, hST⟩ : ∃ x, strOf (tk 32 s).2 = x := ⟨_, rfl⟩
                  rw [hST] at hrd2 hrd3
                  obtain ⟨Cs, hCs⟩ : ∃ x, RVc s = x := ⟨_, rfl⟩
                  obtain ⟨Cb, hCb⟩ : ∃ x, RVc sb = x := ⟨_, rfl⟩
                  have sCs : (Try.prog.info? 76).map (·.size) = some Cs.size := by rw [← hCs]; exact size_RVc _
                  have sCb : (Try.prog.info? 76).map (·.size) = some Cb.size := by rw [← hCb]; exact size_RVc _
                  have ssb : Cs.size = Cb.size := by rw [← hCs, ← hCb]; rfl
                  have ob : Cb.all (·.oneCell') = true := by rw [← hCb]; exact RVc_one _
                  rw [hCs, hCb] at hrd2
                  have hr0 : wr.heap[b3]? = some (.cells Cs 76 (0, 0)) := by rw [← hCs]; exact HG.out.r
                  have HR0 := Lib.hid hr0
                  have HRD2 := Lib.hid hrd2
                  have HRD3 := Lib.hid hrd3
                  have HSZ := Lib.hid (And.intro sCs (And.intro sCb (And.intro ssb ob)))
                  have HCS := Lib.hid (And.intro hCs hCb)
                  have HHL := Lib.hid (And.intro hhl hfl)
                  clear hstep hs hfs hfl hfo hleft hhl hrd2 hrd3 hsb hhv hST hCs hCb sCs sCb ssb ob hr0
                  go_wp2_with (first
                    | (refine wpList_load_row (by rfl) 76 _ (by rfl) b3 (by rfl) 76 Cs (0, 0) _ HR0.out Try.underlying76 rfl HSZ.out.1 ?_)
                    | fail)
                  refine (HRD2.out wr).mono ?_
                  rintro e v3 ⟨rfl, k3⟩
                  obtain ⟨V4, hV4⟩ : ∃ V, v3.setRow b3 Cb = V := ⟨_, rfl⟩
                  have g3 := HG.out.later k3
                  have g4 := g3.put sb
                  rw [HCS.out.2, hV4] at g4
                  have hr3 : v3.heap[b3]? = some (.cells Cs 76 (0, 0)) := by rw [← HCS.out.1]; exact g3.r
                  obtain ⟨HV, hHV⟩ : ∃ L, (bvs hv).toArray = L := ⟨_, rfl⟩
                  have HR3 := Lib.hid hr3
                  have G4 := Lib.hid g4
                  have HCF : Hid (∀ V, Later V4 V → V.cell? ⟨b2, 1, none⟩ = some (.slice A4 j c4)) := Lib.hid (fun V hV => (g4.d.keeps hV.out id).cell 1)
                  rw [hHV] at HRD3
                  have HBH : Hid (∀ V : World, (Instr.buildSlice 23 1 #[(0, .agg HV)]).run Try.prog V = .ok (.slice (some ⟨V.heap.size, 0, none⟩) 1 1) (V.alloc (.cells HV 52))) := Lib.hid (fun V => by rw [← hHV]; exact build_hashes1 (bvs hv) (by rw [bvs_length]; exact HHL.out.1) V)
                  have HHV : Hid (HV = (bvs hv).toArray ∧ (bvs hv).length = 32 ∧ (∀ u ∈ bvs hv, u.oneCell' = true)) := Lib.hid ⟨hHV.symm, by rw [bvs_length]; exact HHL.out.1, bvs_one _⟩
                  clear g3 g4 hr3 hHV k3 HR0 HRD2 HG
                  go_wp2_with (first
                    | (refine wpList_store_row (by rfl) 76 _ _ (by rfl) b3 Cb (by rfl) (by rfl) 76 Cs HR3.out HSZ.out.2.1 HSZ.out.2.2.1 HSZ.out.2.2.2 ?_; rw [hV4])
                    | fail)
                  refine wp_region_stores 5 [4] [0, 1, 2, 3, 4] (Later V4) (fun _ => True) (by kernel_rfl) (by kernel_rfl) (Lasts.later V4) (Lasts.true) (⟨(Keeps.refl _ _).drew⟩) (trivial) ?_
                  refine T_value (get_op rfl) (by rfl) (by rfl) (.pointer (some ⟨b2, 1, none⟩)) (fun _ _ => by go_simp) ?_
                  simp only [Act.put, List.setIfInBounds_toArray, List.set_cons_zero, List.set_cons_succ]
                  refine T_cell (get_op rfl) (by rfl) (by rfl) 23 (.tmp 84) (by rfl) ⟨b2, 1, none⟩ (by rfl) (.slice A4 j c4) _ (fun V hV => HCF.out V hV) Try.underlying23 rfl ?_
                  simp only [Act.put, List.setIfInBounds_toArray, List.set_cons_zero, List.set_cons_succ]
                  refine T_quiet (get_op rfl) (by rfl) (by rfl) (by rfl) ?_
                  intro K hK
                  go_big_quiet_op
                  first | go_big_quiet_on | go_big_quiet_call ((intro _; rfl))
                  refine T_call (get_op rfl) (by rfl) (by rfl) _ _ (.agg HV) (fun _ => by go_simp) (fun V hV => HRD3.out V) ?_
                  simp only [Act.put, List.setIfInBounds_toArray, List.set_cons_zero, List.set_cons_succ]
                  refine T_build (get_op rfl) (by rfl) (by rfl) 23 52 (.tmp 87) (.agg HV) HV (by rfl) (by rfl) HBH.out (Lasts.later _) Lasts.true V4.heap.size (fun V hV => hV.out.size) ?_
                  intro g88 hg88
                  simp only [Act.put, List.setIfInBounds_toArray, List.set_cons_zero, List.set_cons_succ]
                  refine T_nil ?_
                  intro V5 k5 f5
                  have g5 := G4.out.later k5.out
                  have HF5 := Lib.hid f5.2
                  have HOW : Hid (V5.ownsRow (b3 + 1) 52 32 (.slice A4 j c4) j (flt bvs fs)) := Lib.hid (by
                    have h := g5.f
                    rwa [HHL.out.2] at h)
                  have HB5 : Hid (b3 + 1 ≤ V5.heap.size) := Lib.hid g5.lt.2.2
                  have G5 := Lib.hid g5
                  have hj9 : j ≤ 255 := by omega
                  obtain ⟨ih, zh, hih, hzh, hsh, hbh, hzsh⟩ := info_hashes_in
                  have HII := Lib.hid (And.intro hih (And.intro hzh (And.intro hsh (And.intro hbh hzsh))))
                  clear g5 k5 f5 HCF HBH G4 HR3 hV4 hih hzh hsh hbh hzsh hg88
                  simp only [List.drop_succ_cons, List.drop_zero]
                  refine wpList_append_own _ (by rfl) _ _ 23 (by rfl) (b3 + 1) 52 ih zh 32 32 Try.underlying23 HII.out.1 HII.out.2.1 HII.out.2.2.1 HII.out.2.2.2.1 HII.out.2.2.2.2 (by decide) (.slice A4 j c4) j (flt bvs fs) (by rfl) HOW.out ⟨g88, 0, none⟩ 1 1 (bvs hv) (by rfl) (by have := HHV.out.2.1; omega) (World.news_of_block (by have h := HF5.out; rw [HHV.out.1] at h; exact h)) HHV.out.2.2 (by unfold maxLen; omega) (by omega) HB5.out ?_
                  intro v6 V6 ho6 hg6 _
                  have hd6 := G5.out.grownF hg6
                  have hp6 := G5.out.pushF (x := hv) (v := v6) (by rw [HHL.out.2]; exact ho6) hg6
                  obtain ⟨A5, c5, rfl⟩ := own_slice ho6
                  have hc6 : V6.cell? ⟨b2, 1, none⟩ = some (.slice A4 j c4) := hd6.cell 1
                  have hf6 : V6.frozen? ⟨b2, 1, none⟩ = false := hd6.frozen 1
                  have HP6 := Lib.hid hp6
                  clear ho6 hg6 hd6 hp6
                  go_wp2_with fail
                  go_roundw
                  case rel => exact ⟨j + 1, A5, c5, by omega, by go_num, Lib.hid (by rw [HST.out]; exact HP6.out)⟩
                  case measure => simp [intOf]; omega
                · obtain rfl : j = mm := by omega
                  obtain ⟨s, hs⟩ : ∃ s, (Dg.rhs j sc).1 = s := ⟨_, rfl⟩
                  obtain ⟨fs, hfs⟩ : ∃ k, (Dg.rhs j sc).2 = k := ⟨_, rfl⟩
                  rw [hs, hfs] at HG
                  rw [hfs] at hfl hfo
                  have hgx := HGX.out
                  rw [hs, hfs] at hgx
                  have hrd := fun V => end_read s V
                  obtain ⟨re, hre⟩ : ∃ x, rend s = x := ⟨_, rfl⟩
                  rw [hre] at hrd hgx
                  obtain ⟨Cs, hCs⟩ : ∃ x, RVc s = x := ⟨_, rfl⟩
                  rw [hCs] at hrd
                  have SCs : Hid ((Try.prog.info? 76).map (·.size) = some Cs.size) := Lib.hid (by rw [← hCs]; exact size_RVc _)
                  have HR0 : Hid (wr.heap[b3]? = some (.cells Cs 76 (0, 0))) := Lib.hid (by rw [← hCs]; exact HG.out.r)
                  have HRD := Lib.hid hrd
                  have HFX := Lib.hid (And.intro hfl (And.intro hfo hgx))
                  clear hs hfs hfl hfo hgx hrd hre hCs hleft
                  go_wp2_with (first
                    | (refine wpList_load_row (by rfl) 76 _ (by rfl) b3 (by rfl) 76 Cs (0, 0) _ HR0.out Try.underlying76 rfl SCs.out ?_)
                    | fail)
                  refine (HRD.out wr).mono ?_
                  rintro e v1 ⟨rfl, k1⟩
                  have g1 := HG.out.later k1
                  have r1b : v1.heap[b1]? = some (.cells Z 28 (0, 0)) := (g1.keep.block b1 (by have := HB.out.2.2; omega) (by have := HB.out.1; omega)).trans R5.out.2
                  have k1w : Keeps (fun _ => False) w v1 := K6.out.trans' g1.keep (fun j hj e => by have := HB.out.1; omega)
                  have R1B := Lib.hid r1b
                  have K1 := Lib.hid k1w
                  have G1 := Lib.hid g1
                  clear g1 r1b k1w k1 HR0 HRD HG
                  by_cases hre : re = 0
                  · have hrb : (re != 0) = false := by rw [hre]; rfl
                    have HGY : Hid (Dg.get l = (ks, fs, 0)) := Lib.hid (by rw [HFX.out.2.2, if_pos hre])
                    obtain ⟨CD, hCD⟩ : ∃ C, dcs (.slice A3 i c3) (.slice A4 j c4) = C := ⟨_, rfl⟩
                    have r2b : v1.heap[b2]? = some (.cells CD 28 (0, 0)) := by rw [← hCD]; exact G1.out.d
                    have sD : (Try.prog.info? 28).map (·.size) = some CD.size := by rw [← hCD]; exact size_D _ _
                    have zD : Z.size = CD.size := by rw [← hCD, ← HZ.out.1]; rfl
                    have oD : CD.all (·.oneCell') = true := by rw [← hCD]; exact dcs_one _ _ _ _ _ _
                    obtain ⟨W7, hW7⟩ : ∃ V, v1.setRow b1 CD = V := ⟨_, rfl⟩
                    have R7 : Hid (W7.heap[b1]? = some (.cells CD 28 (0, 0))) := Lib.hid (by rw [← hW7]; exact setRow_heap _ _ _ _ _ _ R1B.out)
                    have k7 : Keeps (fun j => j = b1) v1 W7 := by rw [← hW7]; exact Keeps.setRow _ _
                    have K7 : Hid (Keeps (fun _ => False) w W7) := Lib.hid (K1.out.trans' k7 (fun j hj e => by omega))
                    have hown : ∀ q, q = b1 → ((Value.slice A3 i c3).ownBlock ≠ some q ∧ (Value.slice A4 j c4).ownBlock ≠ some q) := fun q e => ⟨fun h => by have := (G1.out.own q (.inl h)).1; have := HB.out.1; omega, fun h => by have := (G1.out.own q (.inr h)).1; have := HB.out.1; omega⟩
                    have ok7 := k7.owns G1.out.k (fun b hb e => (hown b e).1 hb)
                    have of7 := k7.owns G1.out.f (fun b hb e => (hown b e).2 hb)
                    rw [HIL.out.1] at ok7
                    rw [HFX.out.1] at of7
                    have LK7 : Hid (LK W7 A3 ks.length c3 ks) := Lib.hid (by rw [HIL.out.1]; have h := ok7; rw [← HIL.out.1] at h ⊢; exact IsList.of_own kcs_len (by decide) HIL.out.2 h)
                    have LH7 : Hid (LH W7 A4 fs.length c4 fs) := Lib.hid (by rw [HFX.out.1]; have h := of7; rw [← HFX.out.1] at h ⊢; exact IsList.of_own hbs_len (by decide) HFX.out.2.1 h)
                    have RX := Lib.hid (And.intro r2b (And.intro sD (And.intro zD oD)))
                    have HCD := Lib.hid hCD
                    clear r2b sD zD oD k7 hown ok7 of7 hCD
                    go_wp2_with (first
                      | (refine wpList_load_row (by rfl) 28 _ (by rfl) b2 (by rfl) 28 CD (0, 0) _ RX.out.1 Try.underlying28 rfl RX.out.2.1 ?_)
                      | (refine wpList_store_row (by rfl) 28 _ _ (by rfl) b1 CD (by rfl) (by rfl) 28 Z R1B.out RX.out.2.1 RX.out.2.2.1 RX.out.2.2.2 ?_; rw [hW7])
                      | fail)
                    refine bodyPost_ret (results_cell_tmp rfl _ _ b1 28 CD (0, 0) _ rfl R7.out Try.underlying28 rfl RX.out.2.1) rfl ?_
                    unfold GetSaid
                    rw [HGY.out, ← HCD.out]
                    refine ⟨A3, c3, A4, c4, ?_, K7.out, LK7.out, LH7.out⟩
                    show _ = Ending.returned (.tuple #[.agg (dcs (.slice A3 ks.length c3) (.slice A4 fs.length c4)), .int .i64 0])
                    rw [HIL.out.1, HFX.out.1]
                    rfl
                  · have hrb : (re != 0) = true := by simpa using hre
                    have HGY : Hid (Dg.get l = ([], [], re)) := Lib.hid (by rw [HFX.out.2.2, if_neg hre])
                    obtain ⟨W7, hW7⟩ : ∃ V, v1.setRow b1 Z = V := ⟨_, rfl⟩
                    have R7 : Hid (W7.heap[b1]? = some (.cells Z 28 (0, 0))) := Lib.hid (by rw [← hW7]; exact setRow_heap _ _ _ _ _ _ R1B.out)
                    have K7 : Hid (Keeps (fun _ => False) w W7) := Lib.hid (K1.out.trans' (T := fun j => j = b1) (by rw [← hW7]; exact Keeps.setRow _ _) (fun j hj e => by omega))
                    go_wp2_with (first
                      | (refine wpList_made (by rfl) 28 [] (by rfl) [] (by rfl) (.agg Z) HBD.out ?_)
                      | (refine wpList_store_row (by rfl) 28 _ _ (by rfl) b1 Z (by rfl) (by rfl) 28 Z R1B.out SZ.out rfl OZ.out ?_; rw [hW7])
                      | fail)
                    refine bodyPost_ret (results_cell_tmp rfl _ _ b1 28 Z (0, 0) _ rfl R7.out Try.underlying28 rfl SZ.out) rfl ?_
                    rw [← HZ.out.1]
                    exact getsaid_none HGY.out K7.out
            · have hbi2 : (sce == 0) = false := by simpa using hse2
              go_wp2_with (first
                | (refine wpList_store_row (by rfl) 76 _ _ (by rfl) b3 Cc (by rfl) (by rfl) 76 C2 HR1.out SCc.out SCD.out OCc.out ?_; rw [hV2])
                | fail)
              go_loopw [12] (fun iv wr => ∃ (j : Nat) (A4 : Option Addr) (c4 : Nat), j ≤ mm ∧ iv = .int .i64 (j : Int) ∧ Hid (Gk W6 wr (b3 + 1) b2 b3 (Dg.rhs j sc).1 (.slice A3 i c3) (.slice A4 j c4) ks (Dg.rhs j sc).2)) (fun iv _ => mm - (intOf iv).toNat)
              case atStart => exact ⟨0, none, 0, by omega, rfl, G2⟩
              case round =>
                clear G2 hV2 c1 K2 R1B
                obtain ⟨j, A4, c4, hj, rfl, HG⟩ := hrel
                have hfl := Dg.rhs_length j sc
                have hfo := Dg.rhs_ok j sc
                have hleft := Nat.le_trans (Dg.rhs_left j sc) HCL.out
                by_cases hlt : j < mm
                · have hji : (j : Int) < (mm : Int) := by omega
                  have hstep : Dg.rhs (j + 1) sc = ((rhash (Dg.rhs j sc).1).1, (Dg.rhs j sc).2 ++ [(rhash (Dg.rhs j sc).1).2]) := rfl
                  obtain ⟨s, hs⟩ : ∃ s, (Dg.rhs j sc).1 = s := ⟨_, rfl⟩
                  obtain ⟨fs, hfs⟩ : ∃ k, (Dg.rhs j sc).2 = k := ⟨_, rfl⟩
                  rw [hs, hfs] at hstep HG
                  rw [hfs] at hfl
                  rw [hs] at hleft
                  have hhl := Dg.rhash_length s
                  have hrd2 := fun V => raw_read s V (by omega)
                  have hrd3 := fun V => hash_read s V
                  obtain ⟨sb, hsb⟩ : ∃ x, (rhash s).1 = x := ⟨_, rfl⟩
                  obtain ⟨hv, hhv⟩ : ∃ x, (rhash s).2 = x := ⟨_, rfl⟩
                  rw [hsb] at hrd2 hstep
                  rw [hhv] at hrd3 hstep hhl
                  have HST : Hid (Dg.rhs (j + 1) sc = (sb, fs ++ [hv])) := Lib.hid hstep
                  obtain ⟨ST, hST⟩ : ∃ x, strOf (tk 32 s).2 = x := ⟨_, rfl⟩
                  rw [hST] at hrd2 hrd3
                  obtain ⟨Cs, hCs⟩ : ∃ x, RVc s = x := ⟨_, rfl⟩
                  obtain ⟨Cb, hCb⟩ : ∃ x, RVc sb = x := ⟨_, rfl⟩
                  have sCs : (Try.prog.info? 76).map (·.size) = some Cs.size := by rw [← hCs]; exact size_RVc _
                  have sCb : (Try.prog.info? 76).map (·.size) = some Cb.size := by rw [← hCb]; exact size_RVc _
                  have ssb : Cs.size = Cb.size := by rw [← hCs, ← hCb]; rfl
                  have ob : Cb.all (·.oneCell') = true := by rw [← hCb]; exact RVc_one _
                  rw [hCs, hCb] at hrd2
                  have hr0 : wr.heap[b3]? = some (.cells Cs 76 (0, 0)) := by rw [← hCs]; exact HG.out.r
                  have HR0 := Lib.hid hr0
                  have HRD2 := Lib.hid hrd2
                  have HRD3 := Lib.hid hrd3
                  have HSZ := Lib.hid (And.intro sCs (And.intro sCb (And.intro ssb ob)))
                  have HCS := Lib.hid (And.intro hCs hCb)
                  have HHL := Lib.hid (And.intro hhl hfl)
                  clear hstep hs hfs hfl hfo hleft hhl hrd2 hrd3 hsb hhv hST hCs hCb sCs sCb ssb ob hr0
                  go_wp2_with (first
                    | (refine wpList_load_row (by rfl) 76 _ (by rfl) b3 (by rfl) 76 Cs (0, 0) _ HR0.out Try.underlying76 rfl HSZ.out.1 ?_)
                    | fail)
                  refine (HRD2.out wr).mono ?_
                  rintro e v3 ⟨rfl, k3⟩
                  obtain ⟨V4, hV4⟩ : ∃ V, v3.setRow b3 Cb = V := ⟨_, rfl⟩
                  have g3 := HG.out.later k3
                  have g4 := g3.put sb
                  rw [HCS.out.2, hV4] at g4
                  have hr3 : v3.heap[b3]? = some (.cells Cs 76 (0, 0)) := by rw [← HCS.out.1]; exact g3.r
                  obtain ⟨HV, hHV⟩ : ∃ L, (bvs hv).toArray = L := ⟨_, rfl⟩
                  have HR3 := Lib.hid hr3
                  have G4 := Lib.hid g4
                  have HCF : Hid (∀ V, Later V4 V → V.cell? ⟨b2, 1, none⟩ = some (.slice A4 j c4)) := Lib.hid (fun V hV => (g4.d.keeps hV.out id).cell 1)
                  rw [hHV] at HRD3
                  have HBH : Hid (∀ V : World, (Instr.buildSlice 23 1 #[(0, .agg HV)]).run Try.prog V = .ok (.slice (some ⟨V.heap.size, 0, none⟩) 1 1) (V.alloc (.cells HV 52))) := Lib.hid (fun V => by rw [← hHV]; exact build_hashes1 (bvs hv) (by rw [bvs_length]; exact HHL.out.1) V)
                  have HHV : Hid (HV = (bvs hv).toArray ∧ (bvs hv).length = 32 ∧ (∀ u ∈ bvs hv, u.oneCell' = true)) := Lib.hid ⟨hHV.symm, by rw [bvs_length]; exact HHL.out.1, bvs_one _⟩
                  clear g3 g4 hr3 hHV k3 HR0 HRD2 HG
                  go_wp2_with (first
                    | (refine wpList_store_row (by rfl) 76 _ _ (by rfl) b3 Cb (by rfl) (by rfl) 76 Cs HR3.out HSZ.out.2.1 HSZ.out.2.2.1 HSZ.out.2.2.2 ?_; rw [hV4])
                    | fail)
                  refine wp_region_stores 5 [4] [0, 1, 2, 3, 4] (Later V4) (fun _ => True) (by kernel_rfl) (by kernel_rfl) (Lasts.later V4) (Lasts.true) (⟨(Keeps.refl _ _).drew⟩) (trivial) ?_
                  refine T_value (get_op rfl) (by rfl) (by rfl) (.pointer (some ⟨b2, 1, none⟩)) (fun _ _ => by go_simp) ?_
                  simp only [Act.put, List.setIfInBounds_toArray, List.set_cons_zero, List.set_cons_succ]
                  refine T_cell (get_op rfl) (by rfl) (by rfl) 23 (.tmp 84) (by rfl) ⟨b2, 1, none⟩ (by rfl) (.slice A4 j c4) _ (fun V hV => HCF.out V hV) Try.underlying23 rfl ?_
                  simp only [Act.put, List.setIfInBounds_toArray, List.set_cons_zero, List.set_cons_succ]
                  refine T_quiet (get_op rfl) (by rfl) (by rfl) (by rfl) ?_
                  intro K hK
                  go_big_quiet_op
                  first | go_big_quiet_on | go_big_quiet_call ((intro _; rfl))
                  refine T_call (get_op rfl) (by rfl) (by rfl) _ _ (.agg HV) (fun _ => by go_simp) (fun V hV => HRD3.out V) ?_
                  simp only [Act.put, List.setIfInBounds_toArray, List.set_cons_zero, List.set_cons_succ]
                  refine T_build (get_op rfl) (by rfl) (by rfl) 23 52 (.tmp 87) (.agg HV) HV (by rfl) (by rfl) HBH.out (Lasts.later _) Lasts.true V4.heap.size (fun V hV => hV.out.size) ?_
                  intro g88 hg88
                  simp only [Act.put, List.setIfInBounds_toArray, List.set_cons_zero, List.set_cons_succ]
                  refine T_nil ?_
                  intro V5 k5 f5
                  have g5 := G4.out.later k5.out
                  have HF5 := Lib.hid f5.2
                  have HOW : Hid (V5.ownsRow (b3 + 1) 52 32 (.slice A4 j c4) j (flt bvs fs)) := Lib.hid (by
                    have h := g5.f
                    rwa [HHL.out.2] at h)
                  have HB5 : Hid (b3 + 1 ≤ V5.heap.size) := Lib.hid g5.lt.2.2
                  have G5 := Lib.hid g5
                  have hj9 : j ≤ 255 := by omega
                  obtain ⟨ih, zh, hih, hzh, hsh, hbh, hzsh⟩ := info_hashes_in
                  have HII := Lib.hid (And.intro hih (And.intro hzh (And.intro hsh (And.intro hbh hzsh))))
                  clear g5 k5 f5 HCF HBH G4 HR3 hV4 hih hzh hsh hbh hzsh hg88
                  simp only [List.drop_succ_cons, List.drop_zero]
                  refine wpList_append_own _ (by rfl) _ _ 23 (by rfl) (b3 + 1) 52 ih zh 32 32 Try.underlying23 HII.out.1 HII.out.2.1 HII.out.2.2.1 HII.out.2.2.2.1 HII.out.2.2.2.2 (by decide) (.slice A4 j c4) j (flt bvs fs) (by rfl) HOW.out ⟨g88, 0, none⟩ 1 1 (bvs hv) (by rfl) (by have := HHV.out.2.1; omega) (World.news_of_block (by have h := HF5.out; rw [HHV.out.1] at h; exact h)) HHV.out.2.2 (by unfold maxLen; omega) (by omega) HB5.out ?_
                  intro v6 V6 ho6 hg6 _
                  have hd6 := G5.out.grownF hg6
                  have hp6 := G5.out.pushF (x := hv) (v := v6) (by rw [HHL.out.2]; exact ho6) hg6
                  obtain ⟨A5, c5, rfl⟩ := own_slice ho6
                  have hc6 : V6.cell? ⟨b2, 1, none⟩ = some (.slice A4 j c4) := hd6.cell 1
                  have hf6 : V6.frozen? ⟨b2, 1, none⟩ = false := hd6.frozen 1
                  have HP6 := Lib.hid hp6
                  clear ho6 hg6 hd6 hp6
                  go_wp2_with fail
                  go_roundw
                  case rel => exact ⟨j + 1, A5, c5, by omega, by go_num, Lib.hid (by rw [HST.out]; exact HP6.out)⟩
                  case measure => simp [intOf]; omega
                · obtain rfl : j = mm := by omega
                  obtain ⟨s, hs⟩ : ∃ s, (Dg.rhs j sc).1 = s := ⟨_, rfl⟩
                  obtain ⟨fs, hfs⟩ : ∃ k, (Dg.rhs j sc).2 = k := ⟨_, rfl⟩
                  rw [hs, hfs] at HG
                  rw [hfs] at hfl hfo
                  have hgx := HGX.out
                  rw [hs, hfs] at hgx
                  have hrd := fun V => end_read s V
                  obtain ⟨re, hre⟩ : ∃ x, rend s = x := ⟨_, rfl⟩
                  rw [hre] at hrd hgx
                  obtain ⟨Cs, hCs⟩ : ∃ x, RVc s = x := ⟨_, rfl⟩
                  rw [hCs] at hrd
                  have SCs : Hid ((Try.prog.info? 76).map (·.size) = some Cs.size) := Lib.hid (by rw [← hCs]; exact size_RVc _)
                  have HR0 : Hid (wr.heap[b3]? = some (.cells Cs 76 (0, 0))) := Lib.hid (by rw [← hCs]; exact HG.out.r)
                  have HRD := Lib.hid hrd
                  have HFX := Lib.hid (And.intro hfl (And.intro hfo hgx))
                  clear hs hfs hfl hfo hgx hrd hre hCs hleft
                  go_wp2_with (first
                    | (refine wpList_load_row (by rfl) 76 _ (by rfl) b3 (by rfl) 76 Cs (0, 0) _ HR0.out Try.underlying76 rfl SCs.out ?_)
                    | fail)
                  refine (HRD.out wr).mono ?_
                  rintro e v1 ⟨rfl, k1⟩
                  have g1 := HG.out.later k1
                  have r1b : v1.heap[b1]? = some (.cells Z 28 (0, 0)) := (g1.keep.block b1 (by have := HB.out.2.2; omega) (by have := HB.out.1; omega)).trans R5.out.2
                  have k1w : Keeps (fun _ => False) w v1 := K6.out.trans' g1.keep (fun j hj e => by have := HB.out.1; omega)
                  have R1B := Lib.hid r1b
                  have K1 := Lib.hid k1w
                  have G1 := Lib.hid g1
                  clear g1 r1b k1w k1 HR0 HRD HG
                  by_cases hre : re = 0
                  · have hrb : (re != 0) = false := by rw [hre]; rfl
                    have HGY : Hid (Dg.get l = (ks, fs, 0)) := Lib.hid (by rw [HFX.out.2.2, if_pos hre])
                    obtain ⟨CD, hCD⟩ : ∃ C, dcs (.slice A3 i c3) (.slice A4 j c4) = C := ⟨_, rfl⟩
                    have r2b : v1.heap[b2]? = some (.cells CD 28 (0, 0)) := by rw [← hCD]; exact G1.out.d
                    have sD : (Try.prog.info? 28).map (·.size) = some CD.size := by rw [← hCD]; exact size_D _ _
                    have zD : Z.size = CD.size := by rw [← hCD, ← HZ.out.1]; rfl
                    have oD : CD.all (·.oneCell') = true := by rw [← hCD]; exact dcs_one _ _ _ _ _ _
                    obtain ⟨W7, hW7⟩ : ∃ V, v1.setRow b1 CD = V := ⟨_, rfl⟩
                    have R7 : Hid (W7.heap[b1]? = some (.cells CD 28 (0, 0))) := Lib.hid (by rw [← hW7]; exact setRow_heap _ _ _ _ _ _ R1B.out)
                    have k7 : Keeps (fun j => j = b1) v1 W7 := by rw [← hW7]; exact Keeps.setRow _ _
                    have K7 : Hid (Keeps (fun _ => False) w W7) := Lib.hid (K1.out.trans' k7 (fun j hj e => by omega))
                    have hown : ∀ q, q = b1 → ((Value.slice A3 i c3).ownBlock ≠ some q ∧ (Value.slice A4 j c4).ownBlock ≠ some q) := fun q e => ⟨fun h => by have := (G1.out.own q (.inl h)).1; have := HB.out.1; omega, fun h => by have := (G1.out.own q (.inr h)).1; have := HB.out.1; omega⟩
                    have ok7 := k7.owns G1.out.k (fun b hb e => (hown b e).1 hb)
                    have of7 := k7.owns G1.out.f (fun b hb e => (hown b e).2 hb)
                    rw [HIL.out.1] at ok7
                    rw [HFX.out.1] at of7
                    have LK7 : Hid (LK W7 A3 ks.length c3 ks) := Lib.hid (by rw [HIL.out.1]; have h := ok7; rw [← HIL.out.1] at h ⊢; exact IsList.of_own kcs_len (by decide) HIL.out.2 h)
                    have LH7 : Hid (LH W7 A4 fs.length c4 fs) := Lib.hid (by rw [HFX.out.1]; have h := of7; rw [← HFX.out.1] at h ⊢; exact IsList.of_own hbs_len (by decide) HFX.out.2.1 h)
                    have RX := Lib.hid (And.intro r2b (And.intro sD (And.intro zD oD)))
                    have HCD := Lib.hid hCD
                    clear r2b sD zD oD k7 hown ok7 of7 hCD
                    go_wp2_with (first
                      | (refine wpList_load_row (by rfl) 28 _ (by rfl) b2 (by rfl) 28 CD (0, 0) _ RX.out.1 Try.underlying28 rfl RX.out.2.1 ?_)
                      | (refine wpList_store_row (by rfl) 28 _ _ (by rfl) b1 CD (by rfl) (by rfl) 28 Z R1B.out RX.out.2.1 RX.out.2.2.1 RX.out.2.2.2 ?_; rw [hW7])
                      | fail)
                    refine bodyPost_ret (results_cell_tmp rfl _ _ b1 28 CD (0, 0) _ rfl R7.out Try.underlying28 rfl RX.out.2.1) rfl ?_
                    unfold GetSaid
                    rw [HGY.out, ← HCD.out]
                    refine ⟨A3, c3, A4, c4, ?_, K7.out, LK7.out, LH7.out⟩
                    show _ = Ending.returned (.tuple #[.agg (dcs (.slice A3 ks.length c3) (.slice A4 fs.length c4)), .int .i64 0])
                    rw [HIL.out.1, HFX.out.1]
                    rfl
                  · have hrb : (re != 0) = true := by simpa using hre
                    have HGY : Hid (Dg.get l = ([], [], re)) := Lib.hid (by rw [HFX.out.2.2, if_neg hre])
                    obtain ⟨W7, hW7⟩ : ∃ V, v1.setRow b1 Z = V := ⟨_, rfl⟩
                    have R7 : Hid (W7.heap[b1]? = some (.cells Z 28 (0, 0))) := Lib.hid (by rw [← hW7]; exact setRow_heap _ _ _ _ _ _ R1B.out)
                    have K7 : Hid (Keeps (fun _ => False) w W7) := Lib.hid (K1.out.trans' (T := fun j => j = b1) (by rw [← hW7]; exact Keeps.setRow _ _) (fun j hj e => by omega))
                    go_wp2_with (first
                      | (refine wpList_made (by rfl) 28 [] (by rfl) [] (by rfl) (.agg Z) HBD.out ?_)
                      | (refine wpList_store_row (by rfl) 28 _ _ (by rfl) b1 Z (by rfl) (by rfl) 28 Z R1B.out SZ.out rfl OZ.out ?_; rw [hW7])
                      | fail)
                    refine bodyPost_ret (results_cell_tmp rfl _ _ b1 28 Z (0, 0) _ rfl R7.out Try.underlying28 rfl SZ.out) rfl ?_
                    rw [← HZ.out.1]
                    exact getsaid_none HGY.out K7.out
    · have hbi : (s1e == 0) = false := by simpa using hse
      go_wp2_with (first
        | (refine wpList_store_row (by rfl) 76 _ _ (by rfl) b3 CR (by rfl) (by rfl) 76 ZR R5.out.1 SR.out SZR.out OR.out ?_; rw [hW6])
        | fail)
      go_loopw [8] (fun iv wr => ∃ (i : Nat) (A3 : Option Addr) (c3 : Nat), i ≤ nn ∧ iv = .int .i64 (i : Int) ∧ Hid (Gk W6 wr (b3 + 1) b2 b3 (Dg.rkeys i s1).1 (.slice A3 i c3) (.slice none 0 0) (Dg.rkeys i s1).2 [])) (fun iv _ => nn - (intOf iv).toNat)
      case atStart => exact ⟨0, none, 0, by omega, rfl, G0⟩
      case round =>
        clear G0 hW6 c1
        obtain ⟨i, A3, c3, hi, rfl, HG⟩ := hrel
        have hil := Dg.rkeys_length i s1
        have hok := Dg.rkeys_ok i s1
        have hleft := Nat.le_trans (Dg.rkeys_left i s1) HS1.out.2.1
        by_cases hlt : i < nn
        · have hii : (i : Int) < (nn : Int) := by omega
          have hstep : Dg.rkeys (i + 1) s1 = ((Dg.rkey (Dg.rkeys i s1).1).1, (Dg.rkeys i s1).2 ++ [(Dg.rkey (Dg.rkeys i s1).1).2]) := rfl
          obtain ⟨s, hs⟩ : ∃ s, (Dg.rkeys i s1).1 = s := ⟨_, rfl⟩
          obtain ⟨ks, hks⟩ : ∃ k, (Dg.rkeys i s1).2 = k := ⟨_, rfl⟩
          rw [hs, hks] at hstep HG
          rw [hks] at hil
          rw [hs] at hleft
          have hx := Dg.rnum8_nat s
          have hrk : Dg.rkey s = ((rhash (rnum 8 s).1).1, ((rnum 8 s).2.toNat, (rhash (rnum 8 s).1).2)) := rfl
          have hal : (rnum 8 s).1.1.length ≤ 600 := Nat.le_trans (rnum_left 8 s) hleft
          have hhl := Dg.rhash_length (rnum 8 s).1
          have hrd1 := fun V => num_read 8 s V (by omega)
          rw [show ((8 : Nat) : Int) = 8 from rfl] at hrd1
          have hrd2 := fun V => raw_read (rnum 8 s).1 V (by omega)
          have hrd3 := fun V => hash_read (rnum 8 s).1 V
          rw [← hx.1] at hrd1
          obtain ⟨x, hxe⟩ : ∃ x, (rnum 8 s).2.toNat = x := ⟨_, rfl⟩
          obtain ⟨sa, hsa⟩ : ∃ x, (rnum 8 s).1 = x := ⟨_, rfl⟩
          rw [hsa] at hrd1 hrd2 hrd3 hrk hal hhl
          rw [hxe] at hrd1 hrk hx
          obtain ⟨sb, hsb⟩ : ∃ x, (rhash sa).1 = x := ⟨_, rfl⟩
          obtain ⟨hv, hhv⟩ : ∃ x, (rhash sa).2 = x := ⟨_, rfl⟩
          rw [hsb] at hrd2 hrk
          rw [hhv] at hrd3 hrk hhl
          rw [hrk] at hstep
          have hkok : Ft.Key.Ok (x, hv) := ⟨hx.2, hhl⟩
          have HST : Hid (Dg.rkeys (i + 1) s1 = (sb, ks ++ [(x, hv)])) := Lib.hid hstep
          obtain ⟨ST, hST⟩ : ∃ x, strOf (tk 32 sa).2 = x := ⟨_, rfl⟩
          rw [hST] at hrd2 hrd3
          obtain ⟨Cs, hCs⟩ : ∃ x, RVc s = x := ⟨_, rfl⟩
          obtain ⟨Ca, hCa⟩ : ∃ x, RVc sa = x := ⟨_, rfl⟩
          obtain ⟨Cb, hCb⟩ : ∃ x, RVc sb = x := ⟨_, rfl⟩
          have sCs : (Try.prog.info? 76).map (·.size) = some Cs.size := by rw [← hCs]; exact size_RVc _
          have sCa : (Try.prog.info? 76).map (·.size) = some Ca.size := by rw [← hCa]; exact size_RVc _
          have sCb : (Try.prog.info? 76).map (·.size) = some Cb.size := by rw [← hCb]; exact size_RVc _
          have sab : Cs.size = Ca.size := by rw [← hCs, ← hCa]; rfl
          have sbc : Ca.size = Cb.size := by rw [← hCb, ← hCa]; rfl
          have oa : Ca.all (·.oneCell') = true := by rw [← hCa]; exact RVc_one _
          have ob : Cb.all (·.oneCell') = true := by rw [← hCb]; exact RVc_one _
          rw [hCs, hCa] at hrd1
          rw [hCa, hCb] at hrd2
          obtain ⟨ZK, hZK⟩ : ∃ x, (kcs (0, List.replicate 32 0)).toArray = x := ⟨_, rfl⟩
          have hzk : ∀ V : World, (zeroValue 54).run Try.prog V = .ok (.agg ZK) V := fun V => by rw [← hZK]; exact zero_K V
          have SZK : Hid ((Try.prog.info? 54).map (·.size) = some ZK.size) := Lib.hid (by rw [← hZK, List.size_toArray, kcs_length (by simp)]; exact info_k)
          have OZK : Hid (ZK.all (·.oneCell') = true) := Lib.hid (by rw [← hZK, Array.all_eq_true_iff_forall_mem]; intro v hv; exact kcs_one _ v (by simpa using hv))
          have HBK : Hid (∀ V : World, (Instr.build 54 #[]).run Try.prog V = .ok (.agg ZK) V) := Lib.hid (fun V => by rw [← hZK]; exact build_K0 V)
          obtain ⟨bk, hbk⟩ : ∃ x, wr.heap.size = x := ⟨_, rfl⟩
          obtain ⟨V1, hV1⟩ : ∃ V, wr.alloc (.cells ZK 54) = V := ⟨_, rfl⟩
          obtain ⟨V2, hV2⟩ : ∃ V, V1.setRow bk ZK = V := ⟨_, rfl⟩
          have k1 : Keeps (fun _ => False) wr V1 := by rw [← hV1]; exact (Keeps.refl _ _).alloc _
          have k2 : Keeps (fun j => j = bk) V1 V2 := by rw [← hV2]; exact Keeps.setRow _ _
          have r1 : V1.heap[bk]? = some (.cells ZK 54 (0, 0)) := by rw [← hV1, ← hbk]; exact heap_alloc_new wr _
          have r2 : V2.heap[bk]? = some (.cells ZK 54 (0, 0)) := by rw [← hV2]; exact setRow_heap _ _ _ _ _ _ r1
          have hbB : b3 + 1 ≤ bk := by rw [← hbk]; exact HG.out.lt.2.2
          have hown : (Value.slice A3 i c3).ownBlock ≠ some bk := fun e => by have := (HG.out.own bk (.inl e)).2; omega
          have hS : ∀ j, j = bk → b3 + 1 ≤ j ∧ (Value.slice A3 i c3).ownBlock ≠ some j ∧ (Value.slice none 0 0).ownBlock ≠ some j := fun j e => by subst e; exact ⟨hbB, hown, fun e => by cases e⟩
          have g2 := (HG.out.later k1).side k2 hS
          have hr2 : V2.heap[b3]? = some (.cells Cs 76 (0, 0)) := by rw [← hCs]; exact g2.r
          have R1 := Lib.hid r1
          have R2 := Lib.hid r2
          have G2 := Lib.hid g2
          have HR2 := Lib.hid hr2
          have HRD1 := Lib.hid (hrd1 V2)
          have HRD2 := Lib.hid hrd2
          have HRD3 := Lib.hid hrd3
          have HSZ := Lib.hid (And.intro sCs (And.intro sCa (And.intro sCb (And.intro sab (And.intro sbc (And.intro oa ob))))))
          have HCS := Lib.hid (And.intro hCs (And.intro hCa hCb))
          have HKO := Lib.hid (And.intro hkok (And.intro hhl hZK))
          have HS2 := Lib.hid (And.intro hbB hS)
          have HIL := Lib.hid hil
          clear hstep hs hks hil hok hleft hx hrk hal hhl hrd1 hrd2 hrd3 hxe hsa hsb hhv hkok hST hCs hCa hCb sCs sCa sCb sab sbc oa ob hZK k1 k2 r1 r2 hbB hown hS g2 hr2 HG
          go_wp2_with (first
            | (refine wpList_made (by rfl) 54 [] (by rfl) [] (by rfl) (.agg ZK) HBK.out ?_)
            | (refine wpList_store_row (by rfl) 54 _ _ (by rfl) bk ZK (by rfl) (by rfl) 54 ZK R1.out SZK.out rfl OZK.out ?_; rw [hV2])
            | (refine wpList_load_row (by rfl) 76 _ (by rfl) b3 (by rfl) 76 Cs (0, 0) _ HR2.out Try.underlying76 rfl HSZ.out.1 ?_)
            | fail)
          refine HRD1.out.mono ?_
          rintro e v3 ⟨rfl, k3⟩
          obtain ⟨V4, hV4⟩ : ∃ V, v3.setRow b3 Ca = V := ⟨_, rfl⟩
          obtain ⟨V5, hV5⟩ : ∃ V, V4.setCell ⟨bk, 0, none⟩ (.int .u64 (x : Int)) = V := ⟨_, rfl⟩
          have g3 := G2.out.later k3
          have g4 := g3.put sa
          rw [HCS.out.2.1, hV4] at g4
          have k4 : Keeps (fun j => j = b3) v3 V4 := by rw [← hV4]; exact Keeps.setRow _ _
          have hr3 : v3.heap[b3]? = some (.cells Cs 76 (0, 0)) := by rw [← HCS.out.1]; exact g3.r
          have hbkn : bk ≠ b3 := by have := HS2.out.1; omega
          have e4 : Row V4 bk 54 (kcs (0, List.replicate 32 0)) := by
            have e2 : Row V2 bk 54 (kcs (0, List.replicate 32 0)) := by unfold Row; rw [HKO.out.2.2]; exact R2.out
            exact (e2.keeps k3 id).keeps k4 hbkn
          have k5 : Keeps (fun j => j = bk) V4 V5 := by rw [← hV5]; exact (Keeps.refl (fun j => j = bk) V4).setCell (p := ⟨bk, 0, none⟩) (fun _ => rfl) _
          have e5 : Row V5 bk 54 (.int .u64 (x : Int) :: bvs (List.replicate 32 0)) := by rw [← hV5]; exact e4.set 0 _
          have g5 := g4.side k5 HS2.out.2
          have hr5 : V5.heap[b3]? = some (.cells Ca 76 (0, 0)) := by rw [← HCS.out.2.1]; exact g5.r
          have hc4 : V4.cell? ⟨bk, 0, none⟩ = some (.int .u64 0) := e4.cell 0
          have hf4 : V4.frozen? ⟨bk, 0, none⟩ = false := e4.frozen 0
          have HR3 := Lib.hid hr3
          have HR5 := Lib.hid hr5
          have G5 := Lib.hid g5
          have E5 := Lib.hid e5
          clear g3 g4 k4 hr3 e4 k5 e5 g5 hr5 k3 R1 R2 HR2 HRD1 hV1 hV2 G2
          go_wp2_with (first
            | (refine wpList_store_row (by rfl) 76 _ _ (by rfl) b3 Ca (by rfl) (by rfl) 76 Cs HR3.out HSZ.out.2.1 HSZ.out.2.2.2.1 HSZ.out.2.2.2.2.2.1 ?_; rw [hV4])
            | (refine wpList_load_row (by rfl) 76 _ (by rfl) b3 (by rfl) 76 Ca (0, 0) _ HR5.out Try.underlying76 rfl HSZ.out.2.1 ?_)
            | fail)
          refine (HRD2.out V5).mono ?_
          rintro e v6 ⟨rfl, k6⟩
          obtain ⟨V7, hV7⟩ : ∃ V, v6.setRow b3 Cb = V := ⟨_, rfl⟩
          have g6 := G5.out.later k6
          have g7 := g6.put sb
          rw [HCS.out.2.2, hV7] at g7
          have k7 : Keeps (fun j => j = b3) v6 V7 := by rw [← hV7]; exact Keeps.setRow _ _
          have hr6 : v6.heap[b3]? = some (.cells Ca 76 (0, 0)) := by rw [← HCS.out.2.1]; exact g6.r
          have e7 := (E5.out.keeps k6 id).keeps k7 hbkn
          have HR6 := Lib.hid hr6
          have G7 := Lib.hid g7
          have E7 := Lib.hid e7
          clear g6 g7 k7 hr6 e7 k6 HR3 HR5 G5 E5 hV4 hV5 hc4 hf4
          go_wp2_with (first
            | (refine wpList_store_row (by rfl) 76 _ _ (by rfl) b3 Cb (by rfl) (by rfl) 76 Ca HR6.out HSZ.out.2.2.1 HSZ.out.2.2.2.2.1 HSZ.out.2.2.2.2.2.2 ?_; rw [hV7])
            | fail)
          refine (HRD3.out V7).mono ?_
          rintro e v8 ⟨rfl, k8⟩
          obtain ⟨HV, hHV⟩ : ∃ L, (bvs hv).toArray = L := ⟨_, rfl⟩
          obtain ⟨V9, hV9⟩ : ∃ V, v8.setCells bk 1 HV.toList = V := ⟨_, rfl⟩
          have e8 := E7.out.keeps k8 id
          have t8 : v8.there bk 1 HV.size := by rw [← hHV, List.size_toArray, bvs_length, HKO.out.2.1]; exact there_row e8 1 32 (by simp [bvs_length])
          have s8 : (Try.prog.info? 52).map (·.size) = some HV.size := by rw [← hHV, List.size_toArray, bvs_length, HKO.out.2.1]; exact info_h
          have o8 : HV.all (·.oneCell') = true := by rw [← hHV, Array.all_eq_true_iff_forall_mem]; intro v hv; exact bvs_one _ v (by simpa using hv)
          have e9 : Row V9 bk 54 (kcs (x, hv)) := by rw [← hV9, ← hHV]; exact key_setCells e8 (by rw [HKO.out.2.1]; simp)
          have k9 : Keeps (fun j => j = bk) v8 V9 := by rw [← hV9]; exact keeps_setCells19 (S := fun j => j = bk) bk rfl _ _ _ (Keeps.refl _ _)
          have g9 := (G7.out.later k8).side k9 HS2.out.2
          have hc9 : V9.cell? ⟨b2, 0, none⟩ = some (.slice A3 i c3) := g9.d.cell 0
          have hlt9 := g9.lt
          obtain ⟨KL, hKL⟩ : ∃ L, kcs (x, hv) = L := ⟨_, rfl⟩
          rw [hKL] at e9
          have hk33 : KL.length = 33 := by rw [← hKL]; exact kcs_len _ HKO.out.1
          have hk1 : ∀ u ∈ KL, u.oneCell' = true := by rw [← hKL]; exact kcs_one _
          have sKL : (Try.prog.info? 54).map (·.size) = some KL.toArray.size := by rw [List.size_toArray, hk33]; exact info_k
          obtain ⟨ih, zh, hih, hzh, hsh, hbh, hzsh⟩ := info_keys_in
          have HII := Lib.hid (And.intro hih (And.intro hzh (And.intro hsh (And.intro hbh hzsh))))
          have T8 := Lib.hid (And.intro t8 (And.intro s8 o8))
          have E9 := Lib.hid e9
          have G9 := Lib.hid g9
          have HKL := Lib.hid (And.intro hKL (And.intro hk33 (And.intro hk1 sKL)))
          have HOW : Hid ((V9.alloc (.cells KL.toArray 54)).ownsRow (b3 + 1) 54 33 (.slice A3 i c3) i (flt kcs ks)) := Lib.hid (by
            have h := (g9.later (W' := V9.alloc (.cells KL.toArray 54)) ((Keeps.refl _ _).alloc _)).k
            rwa [HIL.out] at h)
          have hB9 : b3 + 1 ≤ (V9.alloc (.cells KL.toArray 54)).heap.size := by simp; omega
          have HB9 := Lib.hid hB9
          have hi9 : i ≤ 255 := by omega
          clear e8 t8 s8 o8 e9 k9 g9 hlt9 hKL hk33 hk1 sKL hih hzh hsh hbh hzsh k8 HR6 G7 E7 hV7 hB9
          rw [hHV]
          go_wp2_with (first
            | (refine wpList_store_mid (by rfl) 52 _ _ (by rfl) bk 1 HV (by rfl) (by rfl) T8.out.1 T8.out.2.1 T8.out.2.2 ?_; rw [hV9])
            | (refine wpList_load_row (by rfl) 54 _ (by rfl) bk (by rfl) 54 KL.toArray (0, 0) _ E9.out Try.underlying54 rfl HKL.out.2.2.2 ?_)
            | (refine wpList_build1_19 (by rfl) 22 1 0 _ (by rfl) (.agg KL.toArray) _ (by rfl) (build_keys1 KL HKL.out.2.1 V9) ?_)
            | (refine wpList_append_own _ (by rfl) _ _ 22 (by rfl) (b3 + 1) 54 ih zh 33 40 Try.underlying22 HII.out.1 HII.out.2.1 HII.out.2.2.1 HII.out.2.2.2.1 HII.out.2.2.2.2 (by decide) (.slice A3 i c3) i (flt kcs ks) (by rfl) HOW.out ⟨V9.heap.size, 0, none⟩ 1 1 KL (by rfl) (by have := HKL.out.2.1; omega) (World.news_of_block (heap_alloc_new V9 _)) HKL.out.2.2.1 (by unfold maxLen; omega) (by omega) HB9.out ?_; intro v4 V10 ho4 hg4 _; have hd4 := G9.out.grownK hg4; have hp4 := G9.out.pushK (x := (x, hv)) (v := v4) (by rw [HIL.out, HKL.out.1]; exact ho4) hg4; obtain ⟨A4, c4, rfl⟩ := own_slice ho4; have hc10 : V10.cell? ⟨b2, 0, none⟩ = some (.slice A3 i c3) := hd4.cell 0; have hf10 : V10.frozen? ⟨b2, 0, none⟩ = false := hd4.frozen 0; have HP4 := Lib.hid hp4; clear ho4 hg4 hd4 hp4)
            | fail)
          go_roundw
          case rel => exact ⟨i + 1, A4, c4, by omega, by go_num, Lib.hid (by rw [HST.out]; exact HP4.out)⟩
          case measure => simp [intOf]; omega
        · obtain rfl : i = nn := by omega
          have hg1 : Dg.get l = Dg.get2 (Dg.rkeys i s1).2 (Dg.rkeys i s1).1 := by
            have e1 : (rnum 1 (l, 0)).1 = s1 := HS1.out.1
            have e2 := HS1.out.2.2.2.1
            unfold Dg.get
            rw [if_neg (fun h => hbig ⟨by have := h.1; rw [e1, HE.out] at this; exact this, by have := h.2; rw [← e2] at this; omega⟩), e1, HS1.out.2.2.1]
          obtain ⟨s2, hs2⟩ : ∃ s, (Dg.rkeys i s1).1 = s := ⟨_, rfl⟩
          obtain ⟨ks, hks⟩ : ∃ k, (Dg.rkeys i s1).2 = k := ⟨_, rfl⟩
          rw [hs2, hks] at hg1 HG
          rw [hks] at hil hok
          rw [hs2] at hleft
          have hrd := fun V => num_read 1 s2 V (by omega)
          rw [show ((1 : Nat) : Int) = 1 from rfl] at hrd
          have q2 := Dg.rnum1_nat s2
          have hcl := Nat.le_trans (rnum_left 1 s2) hleft
          have hg2 : Dg.get2 ks s2 = if (rnum 1 s2).1.2 = 0 ∧ 32 < (rnum 1 s2).2 then ([], [], 13) else
            if rend (Dg.rhs (rnum 1 s2).2.toNat (rnum 1 s2).1).1 = 0 then (ks, (Dg.rhs (rnum 1 s2).2.toNat (rnum 1 s2).1).2, 0) else ([], [], rend (Dg.rhs (rnum 1 s2).2.toNat (rnum 1 s2).1).1) := rfl
          rw [← hg1, ← q2.1] at hg2
          rw [← q2.1] at hrd
          obtain ⟨mm, hmm⟩ : ∃ x, (rnum 1 s2).2.toNat = x := ⟨_, rfl⟩
          rw [hmm] at hg2 hrd q2
          obtain ⟨sc, hsc⟩ : ∃ x, (rnum 1 s2).1 = x := ⟨_, rfl⟩
          rw [hsc] at hg2 hrd hcl
          have hmm255 := q2.2
          obtain ⟨C2, hC2⟩ : ∃ x, RVc s2 = x := ⟨_, rfl⟩
          obtain ⟨Cc, hCc⟩ : ∃ x, RVc sc = x := ⟨_, rfl⟩
          rw [hC2, hCc] at hrd
          obtain ⟨sce, hsce⟩ : ∃ e, sc.2 = e := ⟨_, rfl⟩
          rw [hsce] at hg2
          have SC2 : Hid ((Try.prog.info? 76).map (·.size) = some C2.size) := Lib.hid (by rw [← hC2]; exact size_RVc _)
          have SCc : Hid ((Try.prog.info? 76).map (·.size) = some Cc.size) := Lib.hid (by rw [← hCc]; exact size_RVc _)
          have SCD : Hid (C2.size = Cc.size) := Lib.hid (by rw [← hC2, ← hCc]; rfl)
          have OCc : Hid (Cc.all (·.oneCell') = true) := Lib.hid (by rw [← hCc]; exact RVc_one _)
          have HR0 : Hid (wr.heap[b3]? = some (.cells C2 76 (0, 0))) := Lib.hid (by rw [← hC2]; exact HG.out.r)
          have HRD := Lib.hid hrd
          have HG2 := Lib.hid hg2
          have HIL := Lib.hid (And.intro hil hok)
          have HCL := Lib.hid hcl
          have HCC := Lib.hid (And.intro hC2 (And.intro hCc hsce))
          clear hg1 hs2 hks hil hok hleft hrd q2 hcl hg2 hmm hsc hC2 hCc hsce
          go_wp2_with (first
            | (refine wpList_load_row (by rfl) 76 _ (by rfl) b3 (by rfl) 76 C2 (0, 0) _ HR0.out Try.underlying76 rfl SC2.out ?_)
            | fail)
          refine (HRD.out wr).mono ?_
          rintro e v1 ⟨rfl, k1⟩
          obtain ⟨V2, hV2⟩ : ∃ V, v1.setRow b3 Cc = V := ⟨_, rfl⟩
          have g1 := HG.out.later k1
          have g2 := g1.put sc
          rw [HCC.out.2.1, hV2] at g2
          have hr1 : v1.heap[b3]? = some (.cells C2 76 (0, 0)) := by rw [← HCC.out.1]; exact g1.r
          have c1 : V2.cell? ⟨b3, 1, none⟩ = some (.int .i64 sce) := by
            have h : Row V2 b3 76 [.string (strOf sc.1), .int .i64 sc.2] := g2.r
            rw [← HCC.out.2.2]; exact h.cell 1
          have HR1 := Lib.hid hr1
          have G2 := Lib.hid g2
          have hlt2 := g2.lt
          have r1b : V2.heap[b1]? = some (.cells Z 28 (0, 0)) := (g2.keep.block b1 (by have := HB.out.2.2; omega) (by have := HB.out.1; omega)).trans R5.out.2
          have R1B := Lib.hid r1b
          have K2 : Hid (Keeps (fun _ => False) w V2) := Lib.hid (K6.out.trans' g2.keep (fun j hj e => by have := HB.out.1; omega))
          clear g1 g2 hr1 k1 HR0 HRD HG hlt2 r1b
          by_cases hbig2 : sce = 0 ∧ 32 < mm
          · have hbi2 : (sce == 0) = true := by rw [hbig2.1]; rfl
            have hni2 : (32 : Int) < (mm : Int) := by omega
            have HGX : Hid (Dg.get l = ([], [], 13)) := Lib.hid (by rw [HG2.out, if_pos ⟨hbig2.1, hni2⟩])
            obtain ⟨W7, hW7⟩ : ∃ V, V2.setRow b1 Z = V := ⟨_, rfl⟩
            have R7 : Hid (W7.heap[b1]? = some (.cells Z 28 (0, 0))) := Lib.hid (by rw [← hW7]; exact setRow_heap _ _ _ _ _ _ R1B.out)
            have K7 : Hid (Keeps (fun _ => False) w W7) := Lib.hid (K2.out.trans' (T := fun j => j = b1) (by rw [← hW7]; exact Keeps.setRow _ _) (fun j hj e => by omega))
            go_wp2_with (first
              | (refine wpList_store_row (by rfl) 76 _ _ (by rfl) b3 Cc (by rfl) (by rfl) 76 C2 HR1.out SCc.out SCD.out OCc.out ?_; rw [hV2])
              | (refine wpList_made (by rfl) 28 [] (by rfl) [] (by rfl) (.agg Z) HBD.out ?_)
              | (refine wpList_store_row (by rfl) 28 _ _ (by rfl) b1 Z (by rfl) (by rfl) 28 Z R1B.out SZ.out rfl OZ.out ?_; rw [hW7])
              | fail)
            refine bodyPost_ret (results_cell_tmp rfl _ _ b1 28 Z (0, 0) _ rfl R7.out Try.underlying28 rfl SZ.out) rfl ?_
            rw [← HZ.out.1]
            exact getsaid_none HGX.out K7.out
          · have HGX : Hid (Dg.get l = if rend (Dg.rhs mm sc).1 = 0 then (ks, (Dg.rhs mm sc).2, 0) else ([], [], rend (Dg.rhs mm sc).1)) := Lib.hid (by rw [HG2.out, if_neg (fun h => hbig2 ⟨h.1, by have := h.2; omega⟩), Int.toNat_natCast])
            by_cases hse2 : sce = 0
            · have hbi2 : (sce == 0) = true := by rw [hse2]; rfl
              have hni2 : ¬ (32 : Int) < (mm : Int) := by omega
              go_wp2_with (first
                | (refine wpList_store_row (by rfl) 76 _ _ (by rfl) b3 Cc (by rfl) (by rfl) 76 C2 HR1.out SCc.out SCD.out OCc.out ?_; rw [hV2])
                | fail)
              go_loopw [12] (fun iv wr => ∃ (j : Nat) (A4 : Option Addr) (c4 : Nat), j ≤ mm ∧ iv = .int .i64 (j : Int) ∧ Hid (Gk W6 wr (b3 + 1) b2 b3 (Dg.rhs j sc).1 (.slice A3 i c3) (.slice A4 j c4) ks (Dg.rhs j sc).2)) (fun iv _ => mm - (intOf iv).toNat)
              case atStart => exact ⟨0, none, 0, by omega, rfl, G2⟩
              case round =>
                clear G2 hV2 c1 K2 R1B
                obtain ⟨j, A4, c4, hj, rfl, HG⟩ := hrel
                have hfl := Dg.rhs_length j sc
                have hfo := Dg.rhs_ok j sc
                have hleft := Nat.le_trans (Dg.rhs_left j sc) HCL.out
                by_cases hlt : j < mm
                · have hji : (j : Int) < (mm : Int) := by omega
                  have hstep : Dg.rhs (j + 1) sc = ((rhash (Dg.rhs j sc).1).1, (Dg.rhs j sc).2 ++ [(rhash (Dg.rhs j sc).1).2]) := rfl
                  obtain ⟨s, hs⟩ : ∃ s, (Dg.rhs j sc).1 = s := ⟨_, rfl⟩
                  obtain ⟨fs, hfs⟩ : ∃ k, (Dg.rhs j sc).2 = k := ⟨_, rfl⟩
                  rw [hs, hfs] at hstep HG
                  rw [hfs] at hfl
                  rw [hs] at hleft
                  have hhl := Dg.rhash_length s
                  have hrd2 := fun V => raw_read s V (by omega)
                  have hrd3 := fun V => hash_read s V
                  obtain ⟨sb, hsb⟩ : ∃ x, (rhash s).1 = x := ⟨_, rfl⟩
                  obtain ⟨hv, hhv⟩ : ∃ x, (rhash s).2 = x := ⟨_, rfl⟩
                  rw [hsb] at hrd2 hstep
                  rw [hhv] at hrd3 hstep hhl
                  have HST : Hid (Dg.rhs (j + 1) sc = (sb, fs ++ [hv])) := Lib.hid hstep
                  obtain ⟨ST, hST⟩ : ∃ x, strOf (tk 32 s).2 = x := ⟨_, rfl⟩
                  rw [hST] at hrd2 hrd3
                  obtain ⟨Cs, hCs⟩ : ∃ x, RVc s = x := ⟨_, rfl⟩
                  obtain ⟨Cb, hCb⟩ : ∃ x, RVc sb = x := ⟨_, rfl⟩
                  have sCs : (Try.prog.info? 76).map (·.size) = some Cs.size := by rw [← hCs]; exact size_RVc _
                  have sCb : (Try.prog.info? 76).map (·.size) = some Cb.size := by rw [← hCb]; exact size_RVc _
                  have ssb : Cs.size = Cb.size := by rw [← hCs, ← hCb]; rfl
                  have ob : Cb.all (·.oneCell') = true := by rw [← hCb]; exact RVc_one _
                  rw [hCs, hCb] at hrd2
                  have hr0 : wr.heap[b3]? = some (.cells Cs 76 (0, 0)) := by rw [← hCs]; exact HG.out.r
                  have HR0 := Lib.hid hr0
                  have HRD2 := Lib.hid hrd2
                  have HRD3 := Lib.hid hrd3
                  have HSZ := Lib.hid (And.intro sCs (And.intro sCb (And.intro ssb ob)))
                  have HCS := Lib.hid (And.intro hCs hCb)
                  have HHL := Lib.hid (And.intro hhl hfl)
                  clear hstep hs hfs hfl hfo hleft hhl hrd2 hrd3 hsb hhv hST hCs hCb sCs sCb ssb ob hr0
                  go_wp2_with (first
                    | (refine wpList_load_row (by rfl) 76 _ (by rfl) b3 (by rfl) 76 Cs (0, 0) _ HR0.out Try.underlying76 rfl HSZ.out.1 ?_)
                    | fail)
                  refine (HRD2.out wr).mono ?_
                  rintro e v3 ⟨rfl, k3⟩
                  obtain ⟨V4, hV4⟩ : ∃ V, v3.setRow b3 Cb = V := ⟨_, rfl⟩
                  have g3 := HG.out.later k3
                  have g4 := g3.put sb
                  rw [HCS.out.2, hV4] at g4
                  have hr3 : v3.heap[b3]? = some (.cells Cs 76 (0, 0)) := by rw [← HCS.out.1]; exact g3.r
                  obtain ⟨HV, hHV⟩ : ∃ L, (bvs hv).toArray = L := ⟨_, rfl⟩
                  have HR3 := Lib.hid hr3
                  have G4 := Lib.hid g4
                  have HCF : Hid (∀ V, Later V4 V → V.cell? ⟨b2, 1, none⟩ = some (.slice A4 j c4)) := Lib.hid (fun V hV => (g4.d.keeps hV.out id).cell 1)
                  rw [hHV] at HRD3
                  have HBH : Hid (∀ V : World, (Instr.buildSlice 23 1 #[(0, .agg HV)]).run Try.prog V = .ok (.slice (some ⟨V.heap.size, 0, none⟩) 1 1) (V.alloc (.cells HV 52))) := Lib.hid (fun V => by rw [← hHV]; exact build_hashes1 (bvs hv) (by rw [bvs_length]; exact HHL.out.1) V)
                  have HHV : Hid (HV = (bvs hv).toArray ∧ (bvs hv).length = 32 ∧ (∀ u ∈ bvs hv, u.oneCell' = true)) := Lib.hid ⟨hHV.symm, by rw [bvs_length]; exact HHL.out.1, bvs_one _⟩
                  clear g3 g4 hr3 hHV k3 HR0 HRD2 HG
                  go_wp2_with (first
                    | (refine wpList_store_row (by rfl) 76 _ _ (by rfl) b3 Cb (by rfl) (by rfl) 76 Cs HR3.out HSZ.out.2.1 HSZ.out.2.2.1 HSZ.out.2.2.2 ?_; rw [hV4])
                    | fail)
                  refine wp_region_stores 5 [4] [0, 1, 2, 3, 4] (Later V4) (fun _ => True) (by kernel_rfl) (by kernel_rfl) (Lasts.later V4) (Lasts.true) (⟨(Keeps.refl _ _).drew⟩) (trivial) ?_
                  refine T_value (get_op rfl) (by rfl) (by rfl) (.pointer (some ⟨b2, 1, none⟩)) (fun _ _ => by go_simp) ?_
                  simp only [Act.put, List.setIfInBounds_toArray, List.set_cons_zero, List.set_cons_succ]
                  refine T_cell (get_op rfl) (by rfl) (by rfl) 23 (.tmp 84) (by rfl) ⟨b2, 1, none⟩ (by rfl) (.slice A4 j c4) _ (fun V hV => HCF.out V hV) Try.underlying23 rfl ?_
                  simp only [Act.put, List.setIfInBounds_toArray, List.set_cons_zero, List.set_cons_succ]
                  refine T_quiet (get_op rfl) (by rfl) (by rfl) (by rfl) ?_
                  intro K hK
                  go_big_quiet_op
                  first | go_big_quiet_on | go_big_quiet_call ((intro _; rfl))
                  refine T_call (get_op rfl) (by rfl) (by rfl) _ _ (.agg HV) (fun _ => by go_simp) (fun V hV => HRD3.out V) ?_
                  simp only [Act.put, List.setIfInBounds_toArray, List.set_cons_zero, List.set_cons_succ]
                  refine T_build (get_op rfl) (by rfl) (by rfl) 23 52 (.tmp 87) (.agg HV) HV (by rfl) (by rfl) HBH.out (Lasts.later _) Lasts.true V4.heap.size (fun V hV => hV.out.size) ?_
                  intro g88 hg88
                  simp only [Act.put, List.setIfInBounds_toArray, List.set_cons_zero, List.set_cons_succ]
                  refine T_nil ?_
                  intro V5 k5 f5
                  have g5 := G4.out.later k5.out
                  have HF5 := Lib.hid f5.2
                  have HOW : Hid (V5.ownsRow (b3 + 1) 52 32 (.slice A4 j c4) j (flt bvs fs)) := Lib.hid (by
                    have h := g5.f
                    rwa [HHL.out.2] at h)
                  have HB5 : Hid (b3 + 1 ≤ V5.heap.size) := Lib.hid g5.lt.2.2
                  have G5 := Lib.hid g5
                  have hj9 : j ≤ 255 := by omega
                  obtain ⟨ih, zh, hih, hzh, hsh, hbh, hzsh⟩ := info_hashes_in
                  have HII := Lib.hid (And.intro hih (And.intro hzh (And.intro hsh (And.intro hbh hzsh))))
                  clear g5 k5 f5 HCF HBH G4 HR3 hV4 hih hzh hsh hbh hzsh hg88
                  simp only [List.drop_succ_cons, List.drop_zero]
                  refine wpList_append_own _ (by rfl) _ _ 23 (by rfl) (b3 + 1) 52 ih zh 32 32 Try.underlying23 HII.out.1 HII.out.2.1 HII.out.2.2.1 HII.out.2.2.2.1 HII.out.2.2.2.2 (by decide) (.slice A4 j c4) j (flt bvs fs) (by rfl) HOW.out ⟨g88, 0, none⟩ 1 1 (bvs hv) (by rfl) (by have := HHV.out.2.1; omega) (World.news_of_block (by have h := HF5.out; rw [HHV.out.1] at h; exact h)) HHV.out.2.2 (by unfold maxLen; omega) (by omega) HB5.out ?_
                  intro v6 V6 ho6 hg6 _
                  have hd6 := G5.out.grownF hg6
                  have hp6 := G5.out.pushF (x := hv) (v := v6) (by rw [HHL.out.2]; exact ho6) hg6
                  obtain ⟨A5, c5, rfl⟩ := own_slice ho6
                  have hc6 : V6.cell? ⟨b2, 1, none⟩ = some (.slice A4 j c4) := hd6.cell 1
                  have hf6 : V6.frozen? ⟨b2, 1, none⟩ = false := hd6.frozen 1
                  have HP6 := Lib.hid hp6
                  clear ho6 hg6 hd6 hp6
                  go_wp2_with fail
                  go_roundw
                  case rel => exact ⟨j + 1, A5, c5, by omega, by go_num, Lib.hid (by rw [HST.out]; exact HP6.out)⟩
                  case measure => simp [intOf]; omega
                · obtain rfl : j = mm := by omega
                  obtain ⟨s, hs⟩ : ∃ s, (Dg.rhs j sc).1 = s := ⟨_, rfl⟩
                  obtain ⟨fs, hfs⟩ : ∃ k, (Dg.rhs j sc).2 = k := ⟨_, rfl⟩
                  rw [hs, hfs] at HG
                  rw [hfs] at hfl hfo
                  have hgx := HGX.out
                  rw [hs, hfs] at hgx
                  have hrd := fun V => end_read s V
                  obtain ⟨re, hre⟩ : ∃ x, rend s = x := ⟨_, rfl⟩
                  rw [hre] at hrd hgx
                  obtain ⟨Cs, hCs⟩ : ∃ x, RVc s = x := ⟨_, rfl⟩
                  rw [hCs] at hrd
                  have SCs : Hid ((Try.prog.info? 76).map (·.size) = some Cs.size) := Lib.hid (by rw [← hCs]; exact size_RVc _)
                  have HR0 : Hid (wr.heap[b3]? = some (.cells Cs 76 (0, 0))) := Lib.hid (by rw [← hCs]; exact HG.out.r)
                  have HRD := Lib.hid hrd
                  have HFX := Lib.hid (And.intro hfl (And.intro hfo hgx))
                  clear hs hfs hfl hfo hgx hrd hre hCs hleft
                  go_wp2_with (first
                    | (refine wpList_load_row (by rfl) 76 _ (by rfl) b3 (by rfl) 76 Cs (0, 0) _ HR0.out Try.underlying76 rfl SCs.out ?_)
                    | fail)
                  refine (HRD.out wr).mono ?_
                  rintro e v1 ⟨rfl, k1⟩
                  have g1 := HG.out.later k1
                  have r1b : v1.heap[b1]? = some (.cells Z 28 (0, 0)) := (g1.keep.block b1 (by have := HB.out.2.2; omega) (by have := HB.out.1; omega)).trans R5.out.2
                  have k1w : Keeps (fun _ => False) w v1 := K6.out.trans' g1.keep (fun j hj e => by have := HB.out.1; omega)
                  have R1B := Lib.hid r1b
                  have K1 := Lib.hid k1w
                  have G1 := Lib.hid g1
                  clear g1 r1b k1w k1 HR0 HRD HG
                  by_cases hre : re = 0
                  · have hrb : (re != 0) = false := by rw [hre]; rfl
                    have HGY : Hid (Dg.get l = (ks, fs, 0)) := Lib.hid (by rw [HFX.out.2.2, if_pos hre])
                    obtain ⟨CD, hCD⟩ : ∃ C, dcs (.slice A3 i c3) (.slice A4 j c4) = C := ⟨_, rfl⟩
                    have r2b : v1.heap[b2]? = some (.cells CD 28 (0, 0)) := by rw [← hCD]; exact G1.out.d
                    have sD : (Try.prog.info? 28).map (·.size) = some CD.size := by rw [← hCD]; exact size_D _ _
                    have zD : Z.size = CD.size := by rw [← hCD, ← HZ.out.1]; rfl
                    have oD : CD.all (·.oneCell') = true := by rw [← hCD]; exact dcs_one _ _ _ _ _ _
                    obtain ⟨W7, hW7⟩ : ∃ V, v1.setRow b1 CD = V := ⟨_, rfl⟩
                    have R7 : Hid (W7.heap[b1]? = some (.cells CD 28 (0, 0))) := Lib.hid (by rw [← hW7]; exact setRow_heap _ _ _ _ _ _ R1B.out)
                    have k7 : Keeps (fun j => j = b1) v1 W7 := by rw [← hW7]; exact Keeps.setRow _ _
                    have K7 : Hid (Keeps (fun _ => False) w W7) := Lib.hid (K1.out.trans' k7 (fun j hj e => by omega))
                    have hown : ∀ q, q = b1 → ((Value.slice A3 i c3).ownBlock ≠ some q ∧ (Value.slice A4 j c4).ownBlock ≠ some q) := fun q e => ⟨fun h => by have := (G1.out.own q (.inl h)).1; have := HB.out.1; omega, fun h => by have := (G1.out.own q (.inr h)).1; have := HB.out.1; omega⟩
                    have ok7 := k7.owns G1.out.k (fun b hb e => (hown b e).1 hb)
                    have of7 := k7.owns G1.out.f (fun b hb e => (hown b e).2 hb)
                    rw [HIL.out.1] at ok7
                    rw [HFX.out.1] at of7
                    have LK7 : Hid (LK W7 A3 ks.length c3 ks) := Lib.hid (by rw [HIL.out.1]; have h := ok7; rw [← HIL.out.1] at h ⊢; exact IsList.of_own kcs_len (by decide) HIL.out.2 h)
                    have LH7 : Hid (LH W7 A4 fs.length c4 fs) := Lib.hid (by rw [HFX.out.1]; have h := of7; rw [← HFX.out.1] at h ⊢; exact IsList.of_own hbs_len (by decide) HFX.out.2.1 h)
                    have RX := Lib.hid (And.intro r2b (And.intro sD (And.intro zD oD)))
                    have HCD := Lib.hid hCD
                    clear r2b sD zD oD k7 hown ok7 of7 hCD
                    go_wp2_with (first
                      | (refine wpList_load_row (by rfl) 28 _ (by rfl) b2 (by rfl) 28 CD (0, 0) _ RX.out.1 Try.underlying28 rfl RX.out.2.1 ?_)
                      | (refine wpList_store_row (by rfl) 28 _ _ (by rfl) b1 CD (by rfl) (by rfl) 28 Z R1B.out RX.out.2.1 RX.out.2.2.1 RX.out.2.2.2 ?_; rw [hW7])
                      | fail)
                    refine bodyPost_ret (results_cell_tmp rfl _ _ b1 28 CD (0, 0) _ rfl R7.out Try.underlying28 rfl RX.out.2.1) rfl ?_
                    unfold GetSaid
                    rw [HGY.out, ← HCD.out]
                    refine ⟨A3, c3, A4, c4, ?_, K7.out, LK7.out, LH7.out⟩
                    show _ = Ending.returned (.tuple #[.agg (dcs (.slice A3 ks.length c3) (.slice A4 fs.length c4)), .int .i64 0])
                    rw [HIL.out.1, HFX.out.1]
                    rfl
                  · have hrb : (re != 0) = true := by simpa using hre
                    have HGY : Hid (Dg.get l = ([], [], re)) := Lib.hid (by rw [HFX.out.2.2, if_neg hre])
                    obtain ⟨W7, hW7⟩ : ∃ V, v1.setRow b1 Z = V := ⟨_, rfl⟩
                    have R7 : Hid (W7.heap[b1]? = some (.cells Z 28 (0, 0))) := Lib.hid (by rw [← hW7]; exact setRow_heap _ _ _ _ _ _ R1B.out)
                    have K7 : Hid (Keeps (fun _ => False) w W7) := Lib.hid (K1.out.trans' (T := fun j => j = b1) (by rw [← hW7]; exact Keeps.setRow _ _) (fun j hj e => by omega))
                    go_wp2_with (first
                      | (refine wpList_made (by rfl) 28 [] (by rfl) [] (by rfl) (.agg Z) HBD.out ?_)
                      | (refine wpList_store_row (by rfl) 28 _ _ (by rfl) b1 Z (by rfl) (by rfl) 28 Z R1B.out SZ.out rfl OZ.out ?_; rw [hW7])
                      | fail)
                    refine bodyPost_ret (results_cell_tmp rfl _ _ b1 28 Z (0, 0) _ rfl R7.out Try.underlying28 rfl SZ.out) rfl ?_
                    rw [← HZ.out.1]
                    exact getsaid_none HGY.out K7.out
            · have hbi2 : (sce == 0) = false := by simpa using hse2
              go_wp2_with (first
                | (refine wpList_store_row (by rfl) 76 _ _ (by rfl) b3 Cc (by rfl) (by rfl) 76 C2 HR1.out SCc.out SCD.out OCc.out ?_; rw [hV2])
                | fail)
              go_loopw [12] (fun iv wr => ∃ (j : Nat) (A4 : Option Addr) (c4 : Nat), j ≤ mm ∧ iv = .int .i64 (j : Int) ∧ Hid (Gk W6 wr (b3 + 1) b2 b3 (Dg.rhs j sc).1 (.slice A3 i c3) (.slice A4 j c4) ks (Dg.rhs j sc).2)) (fun iv _ => mm - (intOf iv).toNat)
              case atStart => exact ⟨0, none, 0, by omega, rfl, G2⟩
              case round =>
                clear G2 hV2 c1 K2 R1B
                obtain ⟨j, A4, c4, hj, rfl, HG⟩ := hrel
                have hfl := Dg.rhs_length j sc
                have hfo := Dg.rhs_ok j sc
                have hleft := Nat.le_trans (Dg.rhs_left j sc) HCL.out
                by_cases hlt : j < mm
                · have hji : (j : Int) < (mm : Int) := by omega
                  have hstep : Dg.rhs (j + 1) sc = ((rhash (Dg.rhs j sc).1).1, (Dg.rhs j sc).2 ++ [(rhash (Dg.rhs j sc).1).2]) := rfl
                  obtain ⟨s, hs⟩ : ∃ s, (Dg.rhs j sc).1 = s := ⟨_, rfl⟩
                  obtain ⟨fs, hfs⟩ : ∃ k, (Dg.rhs j sc).2 = k := ⟨_, rfl⟩
                  rw [hs, hfs] at hstep HG
                  rw [hfs] at hfl
                  rw [hs] at hleft
                  have hhl := Dg.rhash_length s
                  have hrd2 := fun V => raw_read s V (by omega)
                  have hrd3 := fun V => hash_read s V
                  obtain ⟨sb, hsb⟩ : ∃ x, (rhash s).1 = x := ⟨_, rfl⟩
                  obtain ⟨hv, hhv⟩ : ∃ x, (rhash s).2 = x := ⟨_, rfl⟩
                  rw [hsb] at hrd2 hstep
                  rw [hhv] at hrd3 hstep hhl
                  have HST : Hid (Dg.rhs (j + 1) sc = (sb, fs ++ [hv])) := Lib.hid hstep
                  obtain ⟨ST, hST⟩ : ∃ x, strOf (tk 32 s).2 = x := ⟨_, rfl⟩
                  rw [hST] at hrd2 hrd3
                  obtain ⟨Cs, hCs⟩ : ∃ x, RVc s = x := ⟨_, rfl⟩
                  obtain ⟨Cb, hCb⟩ : ∃ x, RVc sb = x := ⟨_, rfl⟩
                  have sCs : (Try.prog.info? 76).map (·.size) = some Cs.size := by rw [← hCs]; exact size_RVc _
                  have sCb : (Try.prog.info? 76).map (·.size) = some Cb.size := by rw [← hCb]; exact size_RVc _
                  have ssb : Cs.size = Cb.size := by rw [← hCs, ← hCb]; rfl
                  have ob : Cb.all (·.oneCell') = true := by rw [← hCb]; exact RVc_one _
                  rw [hCs, hCb] at hrd2
                  have hr0 : wr.heap[b3]? = some (.cells Cs 76 (0, 0)) := by rw [← hCs]; exact HG.out.r
                  have HR0 := Lib.hid hr0
                  have HRD2 := Lib.hid hrd2
                  have HRD3 := Lib.hid hrd3
                  have HSZ := Lib.hid (And.intro sCs (And.intro sCb (And.intro ssb ob)))
                  have HCS := Lib.hid (And.intro hCs hCb)
                  have HHL := Lib.hid (And.intro hhl hfl)
                  clear hstep hs hfs hfl hfo hleft hhl hrd2 hrd3 hsb hhv hST hCs hCb sCs sCb ssb ob hr0
                  go_wp2_with (first
                    | (refine wpList_load_row (by rfl) 76 _ (by rfl) b3 (by rfl) 76 Cs (0, 0) _ HR0.out Try.underlying76 rfl HSZ.out.1 ?_)
                    | fail)
                  refine (HRD2.out wr).mono ?_
                  rintro e v3 ⟨rfl, k3⟩
                  obtain ⟨V4, hV4⟩ : ∃ V, v3.setRow b3 Cb = V := ⟨_, rfl⟩
                  have g3 := HG.out.later k3
                  have g4 := g3.put sb
                  rw [HCS.out.2, hV4] at g4
                  have hr3 : v3.heap[b3]? = some (.cells Cs 76 (0, 0)) := by rw [← HCS.out.1]; exact g3.r
                  obtain ⟨HV, hHV⟩ : ∃ L, (bvs hv).toArray = L := ⟨_, rfl⟩
                  have HR3 := Lib.hid hr3
                  have G4 := Lib.hid g4
                  have HCF : Hid (∀ V, Later V4 V → V.cell? ⟨b2, 1, none⟩ = some (.slice A4 j c4)) := Lib.hid (fun V hV => (g4.d.keeps hV.out id).cell 1)
                  rw [hHV] at HRD3
                  have HBH : Hid (∀ V : World, (Instr.buildSlice 23 1 #[(0, .agg HV)]).run Try.prog V = .ok (.slice (some ⟨V.heap.size, 0, none⟩) 1 1) (V.alloc (.cells HV 52))) := Lib.hid (fun V => by rw [← hHV]; exact build_hashes1 (bvs hv) (by rw [bvs_length]; exact HHL.out.1) V)
                  have HHV : Hid (HV = (bvs hv).toArray ∧ (bvs hv).length = 32 ∧ (∀ u ∈ bvs hv, u.oneCell' = true)) := Lib.hid ⟨hHV.symm, by rw [bvs_length]; exact HHL.out.1, bvs_one _⟩
                  clear g3 g4 hr3 hHV k3 HR0 HRD2 HG
                  go_wp2_with (first
                    | (refine wpList_store_row (by rfl) 76 _ _ (by rfl) b3 Cb (by rfl) (by rfl) 76 Cs HR3.out HSZ.out.2.1 HSZ.out.2.2.1 HSZ.out.2.2.2 ?_; rw [hV4])
                    | fail)
                  refine wp_region_stores 5 [4] [0, 1, 2, 3, 4] (Later V4) (fun _ => True) (by kernel_rfl) (by kernel_rfl) (Lasts.later V4) (Lasts.true) (⟨(Keeps.refl _ _).drew⟩) (trivial) ?_
                  refine T_value (get_op rfl) (by rfl) (by rfl) (.pointer (some ⟨b2, 1, none⟩)) (fun _ _ => by go_simp) ?_
                  simp only [Act.put, List.setIfInBounds_toArray, List.set_cons_zero, List.set_cons_succ]
                  refine T_cell (get_op rfl) (by rfl) (by rfl) 23 (.tmp 84) (by rfl) ⟨b2, 1, none⟩ (by rfl) (.slice A4 j c4) _ (fun V hV => HCF.out V hV) Try.underlying23 rfl ?_
                  simp only [Act.put, List.setIfInBounds_toArray, List.set_cons_zero, List.set_cons_succ]
                  refine T_quiet (get_op rfl) (by rfl) (by rfl) (by rfl) ?_
                  intro K hK
                  go_big_quiet_op
                  first | go_big_quiet_on | go_big_quiet_call ((intro _; rfl))
                  refine T_call (get_op rfl) (by rfl) (by rfl) _ _ (.agg HV) (fun _ => by go_simp) (fun V hV => HRD3.out V) ?_
                  simp only [Act.put, List.setIfInBounds_toArray, List.set_cons_zero, List.set_cons_succ]
                  refine T_build (get_op rfl) (by rfl) (by rfl) 23 52 (.tmp 87) (.agg HV) HV (by rfl) (by rfl) HBH.out (Lasts.later _) Lasts.true V4.heap.size (fun V hV => hV.out.size) ?_
                  intro g88 hg88
                  simp only [Act.put, List.setIfInBounds_toArray, List.set_cons_zero, List.set_cons_succ]
                  refine T_nil ?_
                  intro V5 k5 f5
                  have g5 := G4.out.later k5.out
                  have HF5 := Lib.hid f5.2
                  have HOW : Hid (V5.ownsRow (b3 + 1) 52 32 (.slice A4 j c4) j (flt bvs fs)) := Lib.hid (by
                    have h := g5.f
                    rwa [HHL.out.2] at h)
                  have HB5 : Hid (b3 + 1 ≤ V5.heap.size) := Lib.hid g5.lt.2.2
                  have G5 := Lib.hid g5
                  have hj9 : j ≤ 255 := by omega
                  obtain ⟨ih, zh, hih, hzh, hsh, hbh, hzsh⟩ := info_hashes_in
                  have HII := Lib.hid (And.intro hih (And.intro hzh (And.intro hsh (And.intro hbh hzsh))))
                  clear g5 k5 f5 HCF HBH G4 HR3 hV4 hih hzh hsh hbh hzsh hg88
                  simp only [List.drop_succ_cons, List.drop_zero]
                  refine wpList_append_own _ (by rfl) _ _ 23 (by rfl) (b3 + 1) 52 ih zh 32 32 Try.underlying23 HII.out.1 HII.out.2.1 HII.out.2.2.1 HII.out.2.2.2.1 HII.out.2.2.2.2 (by decide) (.slice A4 j c4) j (flt bvs fs) (by rfl) HOW.out ⟨g88, 0, none⟩ 1 1 (bvs hv) (by rfl) (by have := HHV.out.2.1; omega) (World.news_of_block (by have h := HF5.out; rw [HHV.out.1] at h; exact h)) HHV.out.2.2 (by unfold maxLen; omega) (by omega) HB5.out ?_
                  intro v6 V6 ho6 hg6 _
                  have hd6 := G5.out.grownF hg6
                  have hp6 := G5.out.pushF (x := hv) (v := v6) (by rw [HHL.out.2]; exact ho6) hg6
                  obtain ⟨A5, c5, rfl⟩ := own_slice ho6
                  have hc6 : V6.cell? ⟨b2, 1, none⟩ = some (.slice A4 j c4) := hd6.cell 1
                  have hf6 : V6.frozen? ⟨b2, 1, none⟩ = false := hd6.frozen 1
                  have HP6 := Lib.hid hp6
                  clear ho6 hg6 hd6 hp6
                  go_wp2_with fail
                  go_roundw
                  case rel => exact ⟨j + 1, A5, c5, by omega, by go_num, Lib.hid (by rw [HST.out]; exact HP6.out)⟩
                  case measure => simp [intOf]; omega
                · obtain rfl : j = mm := by omega
                  obtain ⟨s, hs⟩ : ∃ s, (Dg.rhs j sc).1 = s := ⟨_, rfl⟩
                  obtain ⟨fs, hfs⟩ : ∃ k, (Dg.rhs j sc).2 = k := ⟨_, rfl⟩
                  rw [hs, hfs] at HG
                  rw [hfs] at hfl hfo
                  have hgx := HGX.out
                  rw [hs, hfs] at hgx
                  have hrd := fun V => end_read s V
                  obtain ⟨re, hre⟩ : ∃ x, rend s = x := ⟨_, rfl⟩
                  rw [hre] at hrd hgx
                  obtain ⟨Cs, hCs⟩ : ∃ x, RVc s = x := ⟨_, rfl⟩
                  rw [hCs] at hrd
                  have SCs : Hid ((Try.prog.info? 76).map (·.size) = some Cs.size) := Lib.hid (by rw [← hCs]; exact size_RVc _)
                  have HR0 : Hid (wr.heap[b3]? = some (.cells Cs 76 (0, 0))) := Lib.hid (by rw [← hCs]; exact HG.out.r)
                  have HRD := Lib.hid hrd
                  have HFX := Lib.hid (And.intro hfl (And.intro hfo hgx))
                  clear hs hfs hfl hfo hgx hrd hre hCs hleft
                  go_wp2_with (first
                    | (refine wpList_load_row (by rfl) 76 _ (by rfl) b3 (by rfl) 76 Cs (0, 0) _ HR0.out Try.underlying76 rfl SCs.out ?_)
                    | fail)
                  refine (HRD.out wr).mono ?_
                  rintro e v1 ⟨rfl, k1⟩
                  have g1 := HG.out.later k1
                  have r1b : v1.heap[b1]? = some (.cells Z 28 (0, 0)) := (g1.keep.block b1 (by have := HB.out.2.2; omega) (by have := HB.out.1; omega)).trans R5.out.2
                  have k1w : Keeps (fun _ => False) w v1 := K6.out.trans' g1.keep (fun j hj e => by have := HB.out.1; omega)
                  have R1B := Lib.hid r1b
                  have K1 := Lib.hid k1w
                  have G1 := Lib.hid g1
                  clear g1 r1b k1w k1 HR0 HRD HG
                  by_cases hre : re = 0
                  · have hrb : (re != 0) = false := by rw [hre]; rfl
                    have HGY : Hid (Dg.get l = (ks, fs, 0)) := Lib.hid (by rw [HFX.out.2.2, if_pos hre])
                    obtain ⟨CD, hCD⟩ : ∃ C, dcs (.slice A3 i c3) (.slice A4 j c4) = C := ⟨_, rfl⟩
                    have r2b : v1.heap[b2]? = some (.cells CD 28 (0, 0)) := by rw [← hCD]; exact G1.out.d
                    have sD : (Try.prog.info? 28).map (·.size) = some CD.size := by rw [← hCD]; exact size_D _ _
                    have zD : Z.size = CD.size := by rw [← hCD, ← HZ.out.1]; rfl
                    have oD : CD.all (·.oneCell') = true := by rw [← hCD]; exact dcs_one _ _ _ _ _ _
                    obtain ⟨W7, hW7⟩ : ∃ V, v1.setRow b1 CD = V := ⟨_, rfl⟩
                    have R7 : Hid (W7.heap[b1]? = some (.cells CD 28 (0, 0))) := Lib.hid (by rw [← hW7]; exact setRow_heap _ _ _ _ _ _ R1B.out)
                    have k7 : Keeps (fun j => j = b1) v1 W7 := by rw [← hW7]; exact Keeps.setRow _ _
                    have K7 : Hid (Keeps (fun _ => False) w W7) := Lib.hid (K1.out.trans' k7 (fun j hj e => by omega))
                    have hown : ∀ q, q = b1 → ((Value.slice A3 i c3).ownBlock ≠ some q ∧ (Value.slice A4 j c4).ownBlock ≠ some q) := fun q e => ⟨fun h => by have := (G1.out.own q (.inl h)).1; have := HB.out.1; omega, fun h => by have := (G1.out.own q (.inr h)).1; have := HB.out.1; omega⟩
                    have ok7 := k7.owns G1.out.k (fun b hb e => (hown b e).1 hb)
                    have of7 := k7.owns G1.out.f (fun b hb e => (hown b e).2 hb)
                    rw [HIL.out.1] at ok7
                    rw [HFX.out.1] at of7
                    have LK7 : Hid (LK W7 A3 ks.length c3 ks) := Lib.hid (by rw [HIL.out.1]; have h := ok7; rw [← HIL.out.1] at h ⊢; exact IsList.of_own kcs_len (by decide) HIL.out.2 h)
                    have LH7 : Hid (LH W7 A4 fs.length c4 fs) := Lib.hid (by rw [HFX.out.1]; have h := of7; rw [← HFX.out.1] at h ⊢; exact IsList.of_own hbs_len (by decide) HFX.out.2.1 h)
                    have RX := Lib.hid (And.intro r2b (And.intro sD (And.intro zD oD)))
                    have HCD := Lib.hid hCD
                    clear r2b sD zD oD k7 hown ok7 of7 hCD
                    go_wp2_with (first
                      | (refine wpList_load_row (by rfl) 28 _ (by rfl) b2 (by rfl) 28 CD (0, 0) _ RX.out.1 Try.underlying28 rfl RX.out.2.1 ?_)
                      | (refine wpList_store_row (by rfl) 28 _ _ (by rfl) b1 CD (by rfl) (by rfl) 28 Z R1B.out RX.out.2.1 RX.out.2.2.1 RX.out.2.2.2 ?_; rw [hW7])
                      | fail)
                    refine bodyPost_ret (results_cell_tmp rfl _ _ b1 28 CD (0, 0) _ rfl R7.out Try.underlying28 rfl RX.out.2.1) rfl ?_
                    unfold GetSaid
                    rw [HGY.out, ← HCD.out]
                    refine ⟨A3, c3, A4, c4, ?_, K7.out, LK7.out, LH7.out⟩
                    show _ = Ending.returned (.tuple #[.agg (dcs (.slice A3 ks.length c3) (.slice A4 fs.length c4)), .int .i64 0])
                    rw [HIL.out.1, HFX.out.1]
                    rfl
                  · have hrb : (re != 0) = true := by simpa using hre
                    have HGY : Hid (Dg.get l = ([], [], re)) := Lib.hid (by rw [HFX.out.2.2, if_neg hre])
                    obtain ⟨W7, hW7⟩ : ∃ V, v1.setRow b1 Z = V := ⟨_, rfl⟩
                    have R7 : Hid (W7.heap[b1]? = some (.cells Z 28 (0, 0))) := Lib.hid (by rw [← hW7]; exact setRow_heap _ _ _ _ _ _ R1B.out)
                    have K7 : Hid (Keeps (fun _ => False) w W7) := Lib.hid (K1.out.trans' (T := fun j => j = b1) (by rw [← hW7]; exact Keeps.setRow _ _) (fun j hj e => by omega))
                    go_wp2_with (first
                      | (refine wpList_made (by rfl) 28 [] (by rfl) [] (by rfl) (.agg Z) HBD.out ?_)
                      | (refine wpList_store_row (by rfl) 28 _ _ (by rfl) b1 Z (by rfl) (by rfl) 28 Z R1B.out SZ.out rfl OZ.out ?_; rw [hW7])
                      | fail)
                    refine bodyPost_ret (results_cell_tmp rfl _ _ b1 28 Z (0, 0) _ rfl R7.out Try.underlying28 rfl SZ.out) rfl ?_
                    rw [← HZ.out.1]
                    exact getsaid_none HGY.out K7.out
end Go.Proofs.Ytmjpaopobnhckaa
