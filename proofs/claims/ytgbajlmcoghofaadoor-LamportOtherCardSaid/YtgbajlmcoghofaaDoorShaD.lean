/-
  Bytes are added (sha.mixer's add).
-/
import Derived.Test.YtgbajlmcoghofaaDoorShaC
namespace Go.Proofs.YtgbajlmcoghofaaDoor
open Go.RowKit Go.BigFrame
set_option linter.unusedVariables false

/-- A copy as one step of a region that draws its order: its block alone is written. -/
theorem step_copy_keeps {P : Program} {ops : Array Oper} {o : Oper} {a : Act} {w : World} {K : Act → World → Prop} {Q : Exit → Act → World → Prop} {E : Prop} (hgd : o.guard = none) (d s : Operand) (dT sT : TypeId)
    (ho : o.op = .call { callee := .builtin .copy, args := #[d, s], argTypes := #[dT, sT] }) (elem : TypeId) (hu : P.underlying dT = some (.slice elem)) (hsz : (P.info? elem).map (·.size) = some 1)
    (sp : Option Addr) (ad : Addr) (dLen dCap sLen sCap g off m : Nat) (hd : a.eval d = .slice (some ⟨g, off, none⟩) dLen dCap) (hs : a.eval s = .slice sp sLen sCap) (hsp : sp = some ad)
    (cur : List Value) (t : TypeId) (hg : w.heap[g]? = some (.cells cur.toArray t (0, 0))) (cs : List Value) (hcs : cs.length = m) (hn : m = Nat.min sLen dLen)
    (hsrc : ∀ j v, cs[j]? = some v → w.cell? (ad.add j) = some v) (hfit : off + cs.length ≤ cur.length) (h1 : ∀ v ∈ cs, v.oneCell' = true)
    (h : ∀ w', Hid (Row w' g t (splice cur off cs)) → Keeps (fun k => k = g) w w' → K (a.put o.dst (.int .i64 (m : Int))) w') :
    if Region.wanted o (yielded ops a.tmps) = true then Oper.wp P o a w K Q else E := by
  have hw : Region.wanted o (yielded ops a.tmps) = true := by simp [Region.wanted, hgd]
  rw [if_pos hw]
  subst hcs hsp
  have hrun := run_copy_row (P := P) w dT sT o.type elem g off dLen dCap ad sLen sCap cur.toArray t cs hu hsz hg hn hsrc (by simpa using hfit) h1
  unfold Oper.wp
  simp [execOp, ho, resolve, invoke, builtin, hd, hs, hrun, Result.andThen]
  exact h _ (show _ = _ by simpa [splice] using setRow_heap w g _ _ t _ hg) (Keeps.setRow g _)

theorem Src.drop {w : World} {A : Option Addr} {xs : List Value} (h : Src w A xs) (n cap : Nat) (hc : xs.length ≤ cap) : Src w (if cap = n then A else A.map (·.add n)) (xs.drop n) := fun j u hu => by
  rw [List.getElem?_drop] at hu
  obtain ⟨a, e, hcell⟩ := h _ u hu
  have hlt := (List.getElem?_eq_some_iff.1 hu).1
  rw [if_neg (by omega)]
  refine ⟨a.add n, by rw [e]; rfl, ?_⟩
  rw [Addr.add_add]
  exact hcell
/-- The source lies in another block. -/
def Apart (A : Option Addr) (b : Nat) : Prop := ∀ a, A = some a → a.block ≠ b
theorem Apart.drop {A : Option Addr} {b : Nat} (h : Apart A b) (n cap : Nat) : Apart (if cap = n then A else A.map (·.add n)) b := by
  split
  · exact h
  · intro a ha
    cases A with
    | none => cases ha
    | some a0 =>
      injection ha with ha
      subst ha
      have : (a0.add n).block = a0.block := by unfold Addr.add; split <;> rfl
      show (a0.add n).block ≠ b
      rw [this]
      exact h a0 rfl

theorem Src.keepsA {w w' : World} {A : Option Addr} {b : Nat} {xs : List UInt8} (h : Src w A (bvs xs)) (hk : Keeps (fun k => k = b) w w') (hA : 0 < xs.length → Apart A b) : Src w' A (bvs xs) := fun j u hu => by
  obtain ⟨a, e, hc⟩ := h j u hu
  have hb : (a.add j).block = a.block := by unfold Addr.add; split <;> rfl
  have hx : 0 < xs.length := by have := (List.getElem?_eq_some_iff.1 hu).1; rw [bvs_length] at this; omega
  exact ⟨a, e, (hk.cell (World.block_lt_of_cell? w _ hc) (by rw [hb]; exact hA hx a e)).trans hc⟩
/-- The mixer at b has taken l in; 'many' is told apart. -/
def MxM (w : World) (b : Nat) (l : List UInt8) (many : Int) : Prop := ∃ blk, blk.take (l.length % 64) = Sh.rest l ∧ Mx w b (Sh.mixed l) blk ((l.length % 64 : Nat) : Int) many
theorem MxM.keeps {S : Nat → Prop} {w w' : World} {b : Nat} {l : List UInt8} {many : Int} (h : MxM w b l many) (hk : Keeps S w w') (hs : ¬ S b) : MxM w' b l many := by
  obtain ⟨blk, h1, h2⟩ := h
  exact ⟨blk, h1, h2.keeps hk hs⟩
theorem MxM.lt {w : World} {b : Nat} {l : List UInt8} {many : Int} (h : MxM w b l many) : b < w.heap.size := by
  obtain ⟨blk, h1, h2⟩ := h
  exact h2.lt
theorem splice_length (blk zs : List UInt8) (f : Nat) (h : f + zs.length ≤ blk.length) : (splice blk f zs).length = blk.length := by
  simp only [splice, List.length_append, List.length_take, List.length_drop]
  omega
theorem splice_take (blk zs : List UInt8) (f : Nat) (h : f + zs.length ≤ blk.length) : (splice blk f zs).take (f + zs.length) = blk.take f ++ zs := by
  unfold splice
  rw [← List.append_assoc, List.take_append_of_le_length (by rw [List.length_append, List.length_take]; omega), List.take_of_length_le (by rw [List.length_append, List.length_take]; omega)]
theorem mcells_splice (st : Sh.St) (blk zs : List UInt8) (f : Nat) (fill many : Int) (hb : blk.length = 64) (h : f + zs.length ≤ 64) :
    splice (mcells st blk fill many) (8 + f) (bvs zs) = mcells st (splice blk f zs) fill many := by
  unfold splice mcells
  have h8 : (wvs st.list).length = 8 := by rw [wvs_length]; rfl
  rw [bvs_length, List.take_append, h8, List.take_of_length_le (by omega), Nat.add_sub_cancel_left, List.take_append_of_le_length (by rw [bvs_length]; omega)]
  rw [List.drop_append, h8, List.drop_of_length_le (by omega), List.nil_append, show 8 + f + zs.length - 8 = f + zs.length by omega, List.drop_append_of_le_length (by rw [bvs_length]; omega)]
  rw [bvs_take, bvs_drop, ← bvs_append, ← bvs_append]
  simp only [List.append_assoc]
theorem mcells_set72 (st : Sh.St) (blk : List UInt8) (fill fill' many : Int) (hb : blk.length = 64) : (mcells st blk fill many).set 72 (.int .i64 fill') = mcells st blk fill' many := by
  unfold mcells
  have h8 : (wvs st.list).length = 8 := by rw [wvs_length]; rfl
  rw [List.set_append, if_neg (by omega), h8, List.set_append, if_neg (by rw [bvs_length]; omega), bvs_length, hb]
  rfl
theorem mcells_set73 (st : Sh.St) (blk : List UInt8) (fill many many' : Int) (hb : blk.length = 64) : (mcells st blk fill many).set 73 (.int .u64 many') = mcells st blk fill many' := by
  unfold mcells
  have h8 : (wvs st.list).length = 8 := by rw [wvs_length]; rfl
  rw [List.set_append, if_neg (by omega), h8, List.set_append, if_neg (by rw [bvs_length]; omega), bvs_length, hb]
  rfl
/-- Behind a copy that leaves the block with room. -/
theorem MxM.few {w : World} {b : Nat} {l zs blk : List UInt8} {fill many : Int} (hb : blk.length = 64) (hr : blk.take (l.length % 64) = Sh.rest l) (hf : l.length % 64 + zs.length < 64) (he : fill = ((l.length % 64 + zs.length : Nat) : Int))
    (h : Mx w b (Sh.mixed l) (splice blk (l.length % 64) zs) fill many) : MxM w b (l ++ zs) many := by
  have hm : (l ++ zs).length % 64 = l.length % 64 + zs.length := by rw [List.length_append]; omega
  refine ⟨splice blk (l.length % 64) zs, ?_, ?_⟩
  · rw [hm, splice_take _ _ _ (by omega), hr, Sh.rest_few _ _ hf]
  · rw [hm, Sh.mixed_few _ _ hf, ← he]
    exact h
/-- Behind a copy that fills it. -/
theorem MxM.full {w : World} {b : Nat} {l zs blk : List UInt8} {many : Int} (hb : blk.length = 64) (hr : blk.take (l.length % 64) = Sh.rest l) (hf : l.length % 64 + zs.length = 64)
    (h : Mx w b (Sh.comp (Sh.mixed l) (splice blk (l.length % 64) zs)) (splice blk (l.length % 64) zs) 0 many) : MxM w b (l ++ zs) many := by
  have hm : (l ++ zs).length % 64 = 0 := by rw [List.length_append]; omega
  have e : splice blk (l.length % 64) zs = Sh.rest l ++ zs := by
    have h1 := splice_take blk zs (l.length % 64) (by omega)
    rw [List.take_of_length_le (by rw [splice_length _ _ _ (by omega)]; omega)] at h1
    rw [h1, hr]
  refine ⟨splice blk (l.length % 64) zs, ?_, ?_⟩
  · rw [hm, Sh.rest_full _ _ hf]; rfl
  · rw [hm, Sh.mixed_full _ _ hf, ← e]
    exact h
theorem size_u8' : (Tryd.prog.info? 5).map (·.size) = some 1 := by kernel_rfl

structure Whole (l zs all : List UInt8) : Prop where
  out : l ++ zs = all

set_option maxRecDepth 100000 in
set_option maxHeartbeats 2000000 in
theorem add_any (b : Nat) (l ys : List UInt8) (many : Int) (A : Option Addr) (c : Nat) (w : World) (hT : Tabs w) (hM : MxM w b l many) (hs : Src w A (bvs ys)) (hA : 0 < ys.length → Apart A b) (hy : ys.length ≤ c) (hc : c ≤ 9223372036854775807)
    (hm0 : 0 ≤ many) (hm1 : many + ys.length ≤ 9223372036854775807) :
    Calls Tryd.prog 27 #[.pointer (some ⟨b, 0, none⟩), .slice A ys.length c] w fun e w' => e = .returned (.tuple #[]) ∧ MxM w' b (l ++ ys) (many + ys.length) ∧ Keeps (fun k => k = b) w w' := by
  obtain ⟨blk, hr, hM⟩ := hM
  have hb1 := hM.2.1
  have hbl := hM.lt
  have c73 : w.cell? ⟨b, 73, none⟩ = some (.int .u64 many) := by rw [hM.2.2.cell, mcells_many hM.1]
  have f73 := hM.2.2.frozen 73
  have h1 := hM.2.2.set 73 (.int .u64 (many + ys.length))
  rw [mcells_set73 _ _ _ _ _ hM.1] at h1
  have hM1 : MxM (w.setCell ⟨b, 73, none⟩ (.int .u64 (many + ys.length))) b l (many + ys.length) := ⟨blk, hr, hM.1, hb1, h1⟩
  have k1 : Keeps (fun k => k = b) w (w.setCell ⟨b, 73, none⟩ (.int .u64 (many + ys.length))) := (Keeps.refl (fun k => k = b) w).setCell (p := ⟨b, 73, none⟩) (fun _ => rfl) _
  have hs1 := hs.keepsA k1 hA
  have HM1 := Lib.hid hM1
  clear hM1 h1 hM hr
  go_enter Tryd.func27, Tryd.ntmps27
  go_wp2_with fail
  clear c73 f73
  go_loopw [1] (fun v wr => ∃ (l' zs : List UInt8) (A' : Option Addr) (c' : Nat), Whole l' zs (l ++ ys) ∧ v = .slice A' zs.length c' ∧ zs.length ≤ c' ∧ c' ≤ 9223372036854775807 ∧ Hid (Src wr A' (bvs zs)) ∧ Hid (0 < zs.length → Apart A' b) ∧ Hid (MxM wr b l' (many + ys.length)) ∧ Keeps (fun k => k = b) w wr) (fun v _ => match v with | .slice _ n _ => n | _ => 0)
  case atStart => exact ⟨l, ys, A, c, ⟨rfl⟩, rfl, hy, hc, hs1, hA, HM1, k1⟩
  case round =>
    clear hs hA hy hc hs1 HM1 k1
    obtain ⟨l', zs, A', c', hW, rfl, hy, hc, HS, HA, HM, hkp⟩ := hrel
    by_cases hz : 0 < zs.length
    · obtain ⟨blk, hr, hMx⟩ := HM.out
      obtain ⟨ad, had, hcell⟩ := HS.out.pos (by rw [bvs_length]; exact hz)
      have hfr72 := hMx.2.2.frozen 72
      have HR := Lib.hid hr
      have HL := Lib.hid hMx.1
      have HROW := Lib.hid hMx.2.2
      have c72 := (hMx.2.2.cell 72).trans (mcells_fill hMx.1)
      have hT1 := hT.keeps hkp (by omega) (by omega)
      have HAD := Lib.hid had
      have HC := Lib.hid hcell
      obtain ⟨f, hf⟩ : ∃ f, l'.length % 64 = f := ⟨_, rfl⟩
      have hf64 : f < 64 := by omega
      rw [hf] at c72 HR HROW
      have HF := Lib.hid hf
      clear hr hMx had hcell hf HM
      go_wp2
      have l0 : (0 : Int) ≤ (f : Int) := by omega
      have l1 : (f : Int) ≤ 64 := by omega
      have n64 : ¬ (64 = f) := by omega
      by_cases hroom : f + zs.length < 64
      · go_region_law (first
          | (refine step_copy_keeps (by rfl) (.tmp 25) (.tmp 26) 24 24 (by rfl) 5 Tryd.underlying24 size_u8' A' ad (64 - f) (64 - f) zs.length c' b (8 + f) zs.length (by rfl) (by rfl) HAD.out _ 59 HROW.out (bvs zs) (bvs_length _) (by exact (Nat.min_eq_left (by omega)).symm) HC.out (by rw [bvs_length, mcells_length HL.out]; omega) (bvs_one _) ?_; intro w4 HG k4))
        have hrow : Row w4 b 59 (mcells (Sh.mixed l') (splice blk f zs) f (many + ys.length)) := by
          have h := HG.out
          rw [mcells_splice _ _ _ _ _ _ HL.out (by omega)] at h
          exact h
        have hbl4 : (splice blk f zs).length = 64 := by rw [splice_length _ _ _ (by rw [HL.out]; omega)]; exact HL.out
        have d72 := (hrow.cell 72).trans (mcells_fill hbl4)
        have e72 := hrow.frozen 72
        have HROW4 := Lib.hid hrow
        have HBL4 := Lib.hid hbl4
        obtain ⟨A2, hA2⟩ : ∃ A2, (if c' = zs.length then A' else A'.map (·.add zs.length)) = A2 := ⟨_, rfl⟩
        clear hrow hbl4 HG HROW c72 n64 hfr72 HAD HC
        go_wp2
        go_roundw
        case rel =>
          go_light
          have hrow2 := HROW4.out.set 72 (.int .i64 ((f : Int) + (zs.length : Int)))
          rw [mcells_set72 _ _ _ _ _ HBL4.out] at hrow2
          have k5 : Keeps (fun k => k = b) wr (w4.setCell ⟨b, 72, none⟩ (.int .i64 ((f : Int) + (zs.length : Int)))) := ((Keeps.refl (fun k => k = b) wr).drew.trans k4).setCell (p := ⟨b, 72, none⟩) (fun _ => rfl) _
          refine ⟨l' ++ zs, [], A2, c' - zs.length, ⟨by rw [List.append_nil]; exact hW.out⟩, by simp, by simp, by omega, Lib.hid (Src.nil _ _), Lib.hid ?_, Lib.hid ?_, hkp.trans k5⟩
          · exact fun h => absurd h (by simp)
          · subst_eqs
            have hm : MxM (w4.setCell ⟨b, 72, none⟩ (.int .i64 ((f : Int) + (zs.length : Int)))) b (l' ++ zs) (many + ys.length) := by
              refine MxM.few HL.out (by rw [HF.out]; exact HR.out) (by rw [HF.out]; exact hroom) (by rw [HF.out]) ⟨?_, hb1, ?_⟩
              · rw [HF.out]; exact HBL4.out
              · rw [HF.out]; exact hrow2
            exact hm
        case measure => simp; omega
      · obtain ⟨n, hn⟩ : ∃ n, n = 64 - f := ⟨_, rfl⟩
        have hn1 : f + n ≤ 64 := by omega
        have hn2 : 64 ≤ f + n := by omega
        have hn3 : n ≤ zs.length := by omega
        have hn4 : (zs.take n).length = n := by rw [List.length_take]; omega
        have HN4 := Lib.hid hn4
        have HNN := Lib.hid hn
        clear hn hn4
        go_region_law (first
          | (refine step_copy_keeps (by rfl) (.tmp 25) (.tmp 26) 24 24 (by rfl) 5 Tryd.underlying24 size_u8' A' ad (64 - f) (64 - f) zs.length c' b (8 + f) n (by rfl) (by rfl) HAD.out _ 59 HROW.out (bvs (zs.take n)) (by rw [bvs_length]; exact HN4.out) (by rw [HNN.out]; exact (Nat.min_eq_right (by omega)).symm) (fun j v hj => HC.out j v (by rw [← bvs_take] at hj; rw [List.getElem?_take] at hj; split at hj; exact hj; cases hj)) (by rw [bvs_length, HN4.out, mcells_length HL.out]; omega) (bvs_one _) ?_; intro w4 HG k4))
        have hrow : Row w4 b 59 (mcells (Sh.mixed l') (splice blk f (zs.take n)) f (many + ys.length)) := by
          have h := HG.out
          rw [mcells_splice _ _ _ _ _ _ HL.out (by rw [HN4.out]; omega)] at h
          exact h
        have hbl4 : (splice blk f (zs.take n)).length = 64 := by rw [splice_length _ _ _ (by rw [HL.out, HN4.out]; omega)]; exact HL.out
        have d72 := (hrow.cell 72).trans (mcells_fill hbl4)
        have e72 := hrow.frozen 72
        have hrow2 := hrow.set 72 (.int .i64 ((f : Int) + (n : Int)))
        rw [mcells_set72 _ _ _ _ _ hbl4] at hrow2
        have hM5 : Mx (w4.setCell ⟨b, 72, none⟩ (.int .i64 ((f : Int) + (n : Int)))) b (Sh.mixed l') (splice blk f (zs.take n)) ((f : Int) + (n : Int)) (many + ys.length) := ⟨hbl4, hb1, hrow2⟩
        have k5 : Keeps (fun k => k = b) wr (w4.setCell ⟨b, 72, none⟩ (.int .i64 ((f : Int) + (n : Int)))) := ((Keeps.refl (fun k => k = b) wr).drew.trans k4).setCell (p := ⟨b, 72, none⟩) (fun _ => rfl) _
        have hT5 := hT1.keeps k5 (by omega) (by omega)
        have HM5 := Lib.hid hM5
        have HBL4 := Lib.hid hbl4
        obtain ⟨A2, hA2⟩ : ∃ A2, (if c' = n then A' else A'.map (·.add n)) = A2 := ⟨_, rfl⟩
        clear hrow hrow2 hbl4 hM5 HG HROW c72 n64 hfr72
        go_wp2_with fail
        refine (mix_any b _ _ _ _ _ hT5 HM5.out).mono ?_
        rintro e w6 ⟨rfl, hM6, k6⟩
        have g72 := (hM6.2.2.cell 72).trans (mcells_fill hM6.1)
        have h72 := hM6.2.2.frozen 72
        have HM6 := Lib.hid hM6
        clear hM6 d72 e72
        go_wp2
        go_roundw
        case rel =>
          go_light
          have hrow7 := HM6.out.2.2.set 72 (.int .i64 0)
          rw [mcells_set72 _ _ _ _ _ HM6.out.1] at hrow7
          have k7 : Keeps (fun k => k = b) wr (w6.setCell ⟨b, 72, none⟩ (.int .i64 0)) := (k5.trans k6).setCell (p := ⟨b, 72, none⟩) (fun _ => rfl) _
          refine ⟨l' ++ zs.take n, zs.drop n, A2, c' - n, ⟨by rw [List.append_assoc, List.take_append_drop]; exact hW.out⟩, by rw [List.length_drop], by rw [List.length_drop]; omega, by omega, Lib.hid ?_, Lib.hid ?_, Lib.hid ?_, hkp.trans k7⟩
          · rw [← hA2, ← bvs_drop]
            rw [bvs_drop]
            refine Src.keepsA (b := b) ?_ k7 (fun _ => (HA.out hz).drop n c')
            rw [← bvs_drop]
            exact HS.out.drop n c' (by rw [bvs_length]; exact hy)
          · rw [← hA2]; exact fun _ => (HA.out hz).drop _ _
          · refine MxM.full HL.out (by rw [HF.out]; exact HR.out) (by rw [HF.out, HN4.out]; omega) ⟨?_, hb1, ?_⟩
            · rw [HF.out]; exact HBL4.out
            · rw [HF.out]; exact hrow7
        case measure => simp; omega
    · have hz0 : zs = [] := List.eq_nil_of_length_eq_zero (by omega)
      have hW2 : l' = l ++ ys := by have := hW.out; rw [hz0, List.append_nil] at this; exact this
      rw [hW2] at HM
      clear hW2 hz0
      go_wp2
      go_end0
      exact ⟨rfl, HM.out, hkp⟩
end Go.Proofs.YtgbajlmcoghofaaDoor
