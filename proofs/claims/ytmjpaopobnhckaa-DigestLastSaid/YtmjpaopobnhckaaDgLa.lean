/-
  The statement DigestLast, for every input, out of the contracts.
-/
import Derived.Test.YtmjpaopobnhckaaDgE
import Derived.Test.YtmjpaopobnhckaaDgMe
import Derived.Test.YtmjpaopobnhckaaRowU
import Derived.Deep.CutRange
namespace Go.Proofs.Ytmjpaopobnhckaa
open Go.RowKit Go.BigFrame
set_option linter.unusedVariables false
set_option linter.unusedSimpArgs false

theorem wpList_cell19 {P : Program} {ops : Array Oper} {rest : List Oper} {o : Oper} {a : Act} {w : World} {Q : Exit → Act → World → Prop} (hw : Region.wanted o (yielded ops a.tmps) = true) (ty : TypeId) (x : Operand) (ho : o.op = .load ty x)
    (p : Addr) (hx : a.eval x = .pointer (some p)) (v : Value) (d : TypeDesc) (hc : w.cell? p = some v) (hu : P.underlying ty = some d) (hd : d.isRow = false)
    (h : wpList P ops Q rest (a.put o.dst v) w) : wpList P ops Q (o :: rest) a w := by
  refine wpList_wanted hw fun K hK => ?_
  unfold Oper.wp execOp
  simp only [ho, hx, Instr.loadAt, Instr.sureAddr, Sem.run_bind, Sem.run_pure, Result.andThen_ok, run_loadVar_one w p ty d v hc hu hd]
  exact hK _ _ h
def lk (n : Nat) : List Ft.Key := (List.range n).map ek
def lh (n : Nat) : List (List UInt8) := (List.range n).map (fun j => eh (UInt8.ofNat j))
theorem lk_succ (n : Nat) : lk (n + 1) = lk n ++ [ek n] := by unfold lk; rw [List.range_succ, List.map_append]; rfl
theorem lh_succ (n : Nat) : lh (n + 1) = lh n ++ [eh (UInt8.ofNat n)] := by unfold lh; rw [List.range_succ, List.map_append]; rfl
theorem lk_length (n : Nat) : (lk n).length = n := by simp [lk]
theorem lh_length (n : Nat) : (lh n).length = n := by simp [lh]
theorem lk_ok (n : Nat) (hn : n ≤ 50) : ∀ k ∈ lk n, Ft.Key.Ok k := fun k hk => by
  obtain ⟨j, hj, rfl⟩ := List.mem_map.1 hk
  have := List.mem_range.1 hj
  exact ⟨by show j ≤ _; omega, by simp [ek]⟩
theorem lh_ok (n : Nat) : ∀ k ∈ lh n, k.length = 32 := fun k hk => by
  obtain ⟨j, hj, rfl⟩ := List.mem_map.1 hk
  exact eh_ok _
theorem byte_nat (j : Nat) (h : j < 256) : ((UInt8.ofNat j).toNat : Int) = (j : Int) := by
  rw [UInt8.toNat_ofNat']
  have : j % 2 ^ 8 = j := Nat.mod_eq_of_lt (by simpa using h)
  omega
/-- The last one of the last ones is the last one. -/
theorem last_lk (a : Nat) (h : 1 ≤ a) : (Dg.last (lk a))[(Dg.last (lk a)).length - 1]? = some (ek (a - 1)) := by
  rw [Dg.last_length, lk_length]
  unfold Dg.last
  rw [List.getElem?_drop, lk_length, show a - 32 + (min a 32 - 1) = a - 1 by omega]
  unfold lk
  rw [List.getElem?_map, List.getElem?_range (by omega)]
  rfl
theorem last_lh (b : Nat) (h : 1 ≤ b) : (Dg.last (lh b))[(Dg.last (lh b)).length - 1]? = some (eh (UInt8.ofNat (b - 1))) := by
  rw [Dg.last_length, lh_length]
  unfold Dg.last
  rw [List.getElem?_drop, lh_length, show b - 32 + (min b 32 - 1) = b - 1 by omega]
  unfold lh
  rw [List.getElem?_map, List.getElem?_range (by omega)]
  rfl
theorem wr19 {z : Int} {k : Nat} (h : z = (k : Int)) (_ : k ≤ 9000) (_ : (0 : Int) ≤ z) : wrap64 z = (k : Int) ∧ z = (k : Int) := ⟨by rw [h]; exact IntWalk.wrap64_in _ (by omega), h⟩
set_option maxRecDepth 100000 in
set_option maxHeartbeats 80000000 in
theorem dlast_walk (C : Digs) (AW : Awake19) (n m : Nat) (W : World) (hn : n ≤ 255) (hm : m ≤ 255) :
    Calls Try.prog 7 #[.int .u8 (n : Int), .int .u8 (m : Int)] W fun e w' => e = .returned (.bool true) ∧ Below W.heap.size W w' := by
  have CC := Lib.hid C
  have HAW := Lib.hid (AW W)
  obtain ⟨Z, hZ⟩ : ∃ Z, dcs (.slice none 0 0) (.slice none 0 0) = Z := ⟨_, rfl⟩
  have hz : ∀ V : World, (zeroValue 26).run Try.prog V = .ok (.agg Z) V := fun V => by rw [← hZ]; exact zero_G V
  have HZ := Lib.hid hZ
  obtain ⟨ih, zh, hih, hzh, hsh, hbh, hzsh⟩ := info_keys_in
  have HIH := Lib.hid (And.intro hih (And.intro hzh (And.intro hsh (And.intro hbh hzsh))))
  obtain ⟨jh, yh, hjh, hyh, hsj, hbj, hysh⟩ := info_hashes_in
  have HJH := Lib.hid (And.intro hjh (And.intro hyh (And.intro hsj (And.intro hbj hysh))))
  obtain ⟨a, ha⟩ : ∃ a, n % 50 = a := ⟨_, rfl⟩
  obtain ⟨b, hb⟩ : ∃ b, m % 50 = b := ⟨_, rfl⟩
  have hai : (n : Int) % 50 = (a : Int) := by omega
  have hbi : (m : Int) % 50 = (b : Int) := by omega
  have ha50 : a < 50 := by omega
  have hb50 : b < 50 := by omega
  clear C AW hZ ha hb hih hzh hsh hbh hzsh hjh hyh hsj hbj hysh
  go_enter Try.func7, Try.ntmps7
  go_wp2_with fail
  refine HAW.out.mono ?_
  rintro e w1 ⟨rfl, k1⟩
  have K1 := Lib.hid k1
  clear k1 HAW
  go_wp2_with fail
  simp only [hai, hbi]
  clear hai hbi
  obtain ⟨B, hB⟩ : ∃ B, w1.heap.size = B := ⟨_, rfl⟩
  have HBE := Lib.hid hB
  clear hB
  go_loopw [8, 10] (fun lv iv wr => ∃ (i : Nat) (A3 : Option Addr) (c3 : Nat), i ≤ a ∧ lv = .slice A3 i c3 ∧ iv = .int .i64 (i : Int) ∧ Hid (wr.ownsRow B 54 33 (.slice A3 i c3) i (flt kcs (lk i))) ∧ Hid (Keeps (fun _ => False) w1 wr)) (fun _ iv _ => a - (intOf iv).toNat)
  case atStart => exact ⟨0, none, 0, by omega, rfl, rfl, Lib.hid (World.ownsRow_nil _ _ _ _), Lib.hid (Keeps.refl _ _)⟩
  case round =>
    obtain ⟨i, A3, c3, hi, rfl, rfl, HO, HK⟩ := hrel
    by_cases hlt : i < a
    · have hii : (i : Int) < (a : Int) := by omega
      have hi50 : i ≤ 50 := by omega
      have hbx := build_ek i
      obtain ⟨XL, hXL⟩ : ∃ L, kcs (ek i) = L := ⟨_, rfl⟩
      rw [hXL] at hbx
      have HBX := Lib.hid hbx
      clear hbx
      have HXL : Hid (XL.length = 33 ∧ (∀ u ∈ XL, u.oneCell' = true)) := Lib.hid ⟨by rw [← hXL]; exact kcs_length (by simp [ek]), by rw [← hXL]; exact kcs_one _⟩
      have HST : Hid (flt kcs (lk i) ++ XL = flt kcs (lk (i + 1))) := Lib.hid (by rw [← hXL, lk_succ, flt_snoc])
      have HBK : Hid (B ≤ wr.heap.size) := Lib.hid (by have := HK.out.size; have := HBE.out; omega)
      clear hXL
      go_wp2_with (first
        | (refine wpList_made (by rfl) 54 [(0, .tmp 35)] (by rfl) [(0, .int .u64 (i : Int))] (by rfl) (.agg XL.toArray) HBX.out ?_)
        | (refine wpList_build1_19 (by rfl) 22 1 0 _ (by rfl) (.agg XL.toArray) _ (by rfl) (build_keys1 XL HXL.out.1 wr) ?_)
        | (refine wpList_append_own _ (by rfl) _ _ 22 (by rfl) B 54 ih zh 33 40 Try.underlying22 HIH.out.1 HIH.out.2.1 HIH.out.2.2.1 HIH.out.2.2.2.1 HIH.out.2.2.2.2 (by decide) (.slice A3 i c3) i (flt kcs (lk i)) (by rfl) (((Keeps.refl (fun _ => False) wr).alloc _).owns HO.out (fun _ _ => id)) ⟨wr.heap.size, 0, none⟩ 1 1 XL (by rfl) (by have := HXL.out.1; omega) (World.news_of_block (heap_alloc_new wr _)) HXL.out.2 (by unfold maxLen; omega) (by omega) (by have := HBK.out; simp; omega) ?_; intro v4 V4 ho4 hg4 _; rw [HST.out] at ho4; have HO4 := Lib.hid ho4; have K4 : Hid (Keeps (fun j => B ≤ j) wr V4) := Lib.hid (Keeps.trans ((Keeps.refl (fun j => B ≤ j) wr).alloc _) (own_grow19 (((Keeps.refl (fun _ => False) wr).alloc _).owns HO.out (fun _ _ => id)) hg4)); obtain ⟨A4, c4, rfl⟩ := own_slice ho4; clear ho4 hg4)
        | fail)
      go_roundw
      case rel => exact ⟨i + 1, A4, c4, by omega, rfl, by go_num, HO4, Lib.hid (HK.out.trans' K4.out (fun j hj e => by have := HBE.out; omega))⟩
      case measure => simp [intOf]; omega
    · obtain rfl : i = a := by omega
      have LA := Lib.hid (show LK wr A3 i c3 (lk i) from by have h := HO.out; rw [show (wr.ownsRow B 54 33 (.slice A3 i c3) i (flt kcs (lk i))) = (wr.ownsRow B 54 33 (.slice A3 (lk i).length c3) (lk i).length (flt kcs (lk i))) by rw [lk_length]] at h; have h2 := IsList.of_own kcs_len (by decide) (lk_ok i (by omega)) h; rwa [lk_length] at h2)
      obtain ⟨w2, hw2⟩ : ∃ V, V = wr := ⟨_, rfl⟩
      subst hw2
      have K2 := Lib.hid (K1.out.trans HK.out)
      obtain ⟨a, ha⟩ : ∃ a, a = i := ⟨_, rfl⟩
      subst ha
      obtain ⟨PA, hPA⟩ : ∃ A, A = A3 := ⟨_, rfl⟩
      subst hPA
      obtain ⟨pc, hpc⟩ : ∃ A, A = c3 := ⟨_, rfl⟩
      subst hpc
      clear HO HK HBE hlt hi
      go_wp2_with fail
      obtain ⟨B, hB⟩ : ∃ B, w2.heap.size = B := ⟨_, rfl⟩
      have HBE := Lib.hid hB
      clear hB
      go_loopw [9, 11] (fun lv iv wr => ∃ (i : Nat) (A3 : Option Addr) (c3 : Nat), i ≤ b ∧ lv = .slice A3 i c3 ∧ iv = .int .i64 (i : Int) ∧ Hid (wr.ownsRow B 52 32 (.slice A3 i c3) i (flt bvs (lh i))) ∧ Hid (Keeps (fun _ => False) w2 wr)) (fun _ iv _ => b - (intOf iv).toNat)
      case atStart => exact ⟨0, none, 0, by omega, rfl, rfl, Lib.hid (World.ownsRow_nil _ _ _ _), Lib.hid (Keeps.refl _ _)⟩
      case round =>
        obtain ⟨i, A3, c3, hi, rfl, rfl, HO, HK⟩ := hrel
        by_cases hlt : i < b
        · have hii : (i : Int) < (b : Int) := by omega
          have hi50 : i ≤ 50 := by omega
          have hbx := build_eh (UInt8.ofNat i)
          rw [byte_nat i (by omega)] at hbx
          obtain ⟨XL, hXL⟩ : ∃ L, bvs (eh (UInt8.ofNat i)) = L := ⟨_, rfl⟩
          rw [hXL] at hbx
          have HBX := Lib.hid hbx
          clear hbx
          have HXL : Hid (XL.length = 32 ∧ (∀ u ∈ XL, u.oneCell' = true)) := Lib.hid ⟨by rw [← hXL]; rw [bvs_length, eh_ok], by rw [← hXL]; exact bvs_one _⟩
          have HST : Hid (flt bvs (lh i) ++ XL = flt bvs (lh (i + 1))) := Lib.hid (by rw [← hXL, lh_succ, flt_snoc])
          have HBK : Hid (B ≤ wr.heap.size) := Lib.hid (by have := HK.out.size; have := HBE.out; omega)
          clear hXL
          go_wp2_with (first
            | (refine wpList_made (by rfl) 52 [(0, .tmp 46)] (by rfl) [(0, .int .u8 (i : Int))] (by rfl) (.agg XL.toArray) HBX.out ?_)
            | (refine wpList_build1_19 (by rfl) 23 1 0 _ (by rfl) (.agg XL.toArray) _ (by rfl) (build_hashes1 XL HXL.out.1 wr) ?_)
            | (refine wpList_append_own _ (by rfl) _ _ 23 (by rfl) B 52 jh yh 32 32 Try.underlying23 HJH.out.1 HJH.out.2.1 HJH.out.2.2.1 HJH.out.2.2.2.1 HJH.out.2.2.2.2 (by decide) (.slice A3 i c3) i (flt bvs (lh i)) (by rfl) (((Keeps.refl (fun _ => False) wr).alloc _).owns HO.out (fun _ _ => id)) ⟨wr.heap.size, 0, none⟩ 1 1 XL (by rfl) (by have := HXL.out.1; omega) (World.news_of_block (heap_alloc_new wr _)) HXL.out.2 (by unfold maxLen; omega) (by omega) (by have := HBK.out; simp; omega) ?_; intro v4 V4 ho4 hg4 _; rw [HST.out] at ho4; have HO4 := Lib.hid ho4; have K4 : Hid (Keeps (fun j => B ≤ j) wr V4) := Lib.hid (Keeps.trans ((Keeps.refl (fun j => B ≤ j) wr).alloc _) (own_grow19 (((Keeps.refl (fun _ => False) wr).alloc _).owns HO.out (fun _ _ => id)) hg4)); obtain ⟨A4, c4, rfl⟩ := own_slice ho4; clear ho4 hg4)
            | fail)
          go_roundw
          case rel => exact ⟨i + 1, A4, c4, by omega, rfl, by go_num, HO4, Lib.hid (HK.out.trans' K4.out (fun j hj e => by have := HBE.out; omega))⟩
          case measure => simp [intOf]; omega
        · obtain rfl : i = b := by omega
          have LB0 := Lib.hid (show LH wr A3 i c3 (lh i) from by have h := HO.out; rw [show (wr.ownsRow B 52 32 (.slice A3 i c3) i (flt bvs (lh i))) = (wr.ownsRow B 52 32 (.slice A3 (lh i).length c3) (lh i).length (flt bvs (lh i))) by rw [lh_length]] at h; have h2 := IsList.of_own hbs_len (by decide) (lh_ok i) h; rwa [lh_length] at h2)
          have LA0 := Lib.hid (LA.out.later HK.out)
          have K3 := Lib.hid (K2.out.trans HK.out)
          obtain ⟨w3, hw3⟩ : ∃ V, V = wr := ⟨_, rfl⟩
          subst hw3
          obtain ⟨b, hb⟩ : ∃ b, b = i := ⟨_, rfl⟩
          subst hb
          obtain ⟨MA, hMA⟩ : ∃ A, A = A3 := ⟨_, rfl⟩
          subst hMA
          obtain ⟨mc, hmc⟩ : ∃ A, A = c3 := ⟨_, rfl⟩
          subst hmc
          clear HO HK HBE hlt hi LA K2
          have hpx := LA0.out.max
          have hpl := LA0.out.le
          have hmx := LB0.out.max
          have hml := LB0.out.le
          have h4 := CC.out.make w3 PA MA a pc b mc (lk a) (lh b) LA0.out LB0.out (by omega) (by omega)
          have hx := Dg.last_length (lk a)
          have hy := Dg.last_length (lh b)
          rw [lk_length] at hx
          rw [lh_length] at hy
          have hdo : ∀ k ∈ Dg.last (lk a), Ft.Key.Ok k := fun k hk => lk_ok a (by omega) k (List.mem_of_mem_drop hk)
          have hfo : ∀ k ∈ Dg.last (lh b), k.length = 32 := fun k hk => lh_ok b k (List.mem_of_mem_drop hk)
          have hp1 : Dg.put (Dg.last (lk a)) (Dg.last (lh b)) = (Dg.bytes (Dg.last (lk a)) (Dg.last (lh b)), 0) := by unfold Dg.put; rw [if_neg (by omega)]
          have hp2 : (Dg.put (lk a) (lh b)).2 = if 32 < a ∨ 32 < b then 13 else 0 := by
            unfold Dg.put
            rw [lk_length, lh_length]
            split <;> rfl
          have hcl := bytes_length hdo hfo
          have hla := last_lk a
          have hlb := last_lh b
          obtain ⟨dl, hdl⟩ : ∃ x, Dg.last (lk a) = x := ⟨_, rfl⟩
          obtain ⟨fl, hfl⟩ : ∃ x, Dg.last (lh b) = x := ⟨_, rfl⟩
          rw [hdl] at h4 hx hdo hp1 hcl hla
          rw [hfl] at h4 hy hfo hp1 hcl hlb
          obtain ⟨x, hxe⟩ : ∃ x, dl.length = x := ⟨_, rfl⟩
          obtain ⟨y, hye⟩ : ∃ x, fl.length = x := ⟨_, rfl⟩
          rw [hxe] at h4 hx hcl hla
          rw [hye] at h4 hy hcl hlb
          have hx32 : x ≤ 32 := by omega
          have hy32 : y ≤ 32 := by omega
          have HLA := Lib.hid hla
          have HLB := Lib.hid hlb
          have HXY := Lib.hid (And.intro hx hy)
          have HP1 := Lib.hid hp1
          have HP2 := Lib.hid hp2
          have HCL := Lib.hid hcl
          have H4 := Lib.hid h4
          clear hx hy hdo hfo hp1 hp2 hcl hla hlb hdl hfl hxe hye h4
          go_wp2_with fail
          refine H4.out.mono ?_
          rintro e w4 ⟨X3, x3, Y4, y4, rfl, k4, l4, m4⟩
          obtain ⟨D1, hD1⟩ : ∃ D, dcs (.slice X3 x x3) (.slice Y4 y y4) = D := ⟨_, rfl⟩
          obtain ⟨b12, V5, W5, hb5, hV5, hW5, r5, r5', k5⟩ := lay_digest w4 26 D1 Z
          have K5 := Lib.hid ((K3.out.trans k4).trans k5)
          have LA5 := Lib.hid ((LA0.out.later k4).later k5)
          have LB5 := Lib.hid ((LB0.out.later k4).later k5)
          have L5 := Lib.hid (And.intro (l4.later k5) (m4.later k5))
          have R5 := Lib.hid r5
          have R5' := Lib.hid r5'
          have SD1 : Hid ((Try.prog.info? 26).map (·.size) = some D1.size ∧ Z.size = D1.size ∧ D1.all (·.oneCell') = true) := Lib.hid ⟨by rw [← hD1]; exact size_G _ _, by rw [← hD1, ← HZ.out]; rfl, by rw [← hD1]; exact dcs_one _ _ _ _ _ _⟩
          have h6 := CC.out.put W5 X3 Y4 x x3 y y4 dl fl L5.out.1 L5.out.2 (by omega) (by omega)
          rw [HP1.out, hD1] at h6
          obtain ⟨bs, hbs⟩ : ∃ z, Dg.bytes dl fl = z := ⟨_, rfl⟩
          have hcl := HCL.out
          rw [hbs] at h6 hcl
          obtain ⟨cl, hcle⟩ : ∃ z, bs.length = z := ⟨_, rfl⟩
          rw [hcle] at hcl
          have H6 : Hid (Calls Try.prog 19 #[.agg D1] W5 fun e w' => ∃ (A' : Option Addr) (c' : Nat), e = .returned (.tuple #[.slice A' cl c', .int .i64 0]) ∧ Keeps (fun _ => False) W5 w' ∧ LB w' A' cl c' bs) := Lib.hid (by rw [← hcle]; exact h6)
          have HC := Lib.hid hcl
          have HD1 := Lib.hid hD1
          rw [hD1]
          clear k4 l4 m4 k5 r5 r5' hD1 h6 hbs hcl hcle H4 K3 LA0 LB0
          go_wp2_with (first
            | (refine wpList_store_row (by rfl) 26 _ _ (by rfl) b12 D1 (by rfl) (by rfl) 26 Z R5.out SD1.out.1 SD1.out.2.1 SD1.out.2.2 ?_; rw [hW5])
            | (refine wpList_load_row (by rfl) 26 _ (by rfl) b12 (by rfl) 26 D1 (0, 0) _ R5'.out Try.underlying26 rfl SD1.out.1 ?_)
            | fail)
          refine H6.out.mono ?_
          rintro e w6 ⟨P, c6, rfl, k6, l6⟩
          have K6 := Lib.hid (K5.out.trans k6)
          have hq1 := l6.le
          have hq2 := l6.max
          have E6 : Hid (Row w6 b12 26 [.slice X3 x x3, .slice Y4 y y4]) := Lib.hid (Row.keeps (w := W5) (by show _ = _; rw [R5'.out, ← HD1.out]; rfl) k6 id)
          have L6 := Lib.hid (And.intro (L5.out.1.later k6) (L5.out.2.later k6))
          obtain ⟨D0, hD0⟩ : ∃ D, dcs (.slice PA a pc) (.slice MA b mc) = D := ⟨_, rfl⟩
          have HB0 : Hid (∀ V : World, (Instr.build 26 #[(0, .slice PA a pc), (1, .slice MA b mc)]).run Try.prog V = .ok (.agg D0) V) := Lib.hid (fun V => by rw [← hD0]; exact build_G _ _ _ _ _ _ V)
          have h7 := CC.out.put w6 PA MA a pc b mc (lk a) (lh b) (LA5.out.later k6) (LB5.out.later k6) (by omega) (by omega)
          rw [hD0] at h7
          obtain ⟨f, hf⟩ : ∃ z, (Dg.put (lk a) (lh b)).2 = z := ⟨_, rfl⟩
          obtain ⟨fn, hfn⟩ : ∃ z, (Dg.put (lk a) (lh b)).1.length = z := ⟨_, rfl⟩
          have hfx := HP2.out
          rw [hf] at h7 hfx
          rw [hfn] at h7
          have H7 := Lib.hid h7
          have HF := Lib.hid hfx
          clear k6 l6 hD0 h7 hf hfn hfx hb5 hV5 hW5 R5 R5' LA5 LB5 L5 H6
          go_wp2_with (first
            | (refine wpList_made (by rfl) 26 [(0, .tmp 59), (1, .tmp 60)] (by rfl) [(0, .slice PA a pc), (1, .slice MA b mc)] (by rfl) (.agg D0) HB0.out ?_)
            | fail)
          refine H7.out.mono ?_
          rintro e w8 ⟨P2, c8, rfl, k8, l8⟩
          have K8 := Lib.hid (K6.out.trans k8)
          have hq3 := l8.le
          have hq4 := l8.max
          have e8 := E6.out.keeps k8 id
          have L8 := Lib.hid (And.intro (L6.out.1.later k8) (L6.out.2.later k8))
          have E8 := Lib.hid e8
          clear k8 l8 e8 E6 L6 H7 HB0
          by_cases ca : 32 < a
          · skip
            by_cases cb : 32 < b
            · have hxy1 := HXY.out.1
              have hxy2 := HXY.out.2
              obtain rfl : x = 32 := by omega
              obtain rfl : y = 32 := by omega
              have hfv : f = 13 := by rw [HF.out, if_pos (by omega)]
              subst hfv
              have hai : (32 : Int) < (a : Int) := by omega
              have hai2 : ¬ (a : Int) ≤ 32 := by omega
              have hai3 : decide ((a : Int) ≤ 32) = false := decide_eq_false hai2
              have hbi : (32 : Int) < (b : Int) := by omega
              have hbi2 : ¬ (b : Int) ≤ 32 := by omega
              have hbi3 : decide ((b : Int) ≤ 32) = false := decide_eq_false hbi2
              have hcl := HC.out
              have hclb : cl ≤ 2306 := by omega
              have hcl2 : (cl : Int) = 2306 := by omega
              have hla := HLA.out (by omega)
              obtain ⟨am, ham⟩ : ∃ z, a - 1 = z := ⟨_, rfl⟩
              have ham2 : am ≤ 49 := by omega
              have ham3 : (am : Int) < (a : Int) := by omega
              have HAM : Hid (wrap64 ((a : Int) - 1) = (am : Int) ∧ (a : Int) - 1 = (am : Int)) := Lib.hid (wr19 (by omega) (by omega) (by omega))
              have hla : dl[31]? = some (ek (a - 1)) := hla
              rw [ham] at hla
              obtain ⟨ad, rfl, _, hkc⟩ := keys_at L8.out.1 hla
              have hk0 : w8.cell? ⟨ad.block, ad.off + 1023, none⟩ = some (.int .u64 (am : Int)) := hkc 0 (.int .u64 (am : Int)) rfl
              clear hla ham hkc
              have hlb := HLB.out (by omega)
              obtain ⟨bm, hbm⟩ : ∃ z, b - 1 = z := ⟨_, rfl⟩
              have hbm2 : bm ≤ 49 := by omega
              have hbm3 : (bm : Int) < (b : Int) := by omega
              have HBM : Hid (wrap64 ((b : Int) - 1) = (bm : Int) ∧ (b : Int) - 1 = (bm : Int)) := Lib.hid (wr19 (by omega) (by omega) (by omega))
              have hlb : fl[31]? = some (eh (UInt8.ofNat (b - 1))) := hlb
              rw [hbm] at hlb
              obtain ⟨ad2, rfl, _, hyc⟩ := hashes_at L8.out.2 hlb
              have hyb := build_eh (UInt8.ofNat bm)
              rw [byte_nat bm (by omega)] at hyb
              have hey : ∀ V : World, (binOp .eql 52 (.agg (bvs (eh (UInt8.ofNat bm))).toArray) (.agg (bvs (eh (UInt8.ofNat bm))).toArray)).run Try.prog V = .ok (.bool true) V := fun V => by have h := run_eql_hash (eh (UInt8.ofNat bm)) (eh (UInt8.ofNat bm)) (eh_ok _) (eh_ok _) V; rwa [decide_eq_true rfl] at h
              obtain ⟨YB, hYB⟩ : ∃ L, (bvs (eh (UInt8.ofNat bm))).toArray = L := ⟨_, rfl⟩
              have SYL : Hid ((Try.prog.info? 52).map (·.size) = some (bvs (eh (UInt8.ofNat bm))).length) := Lib.hid (by rw [bvs_length, eh_ok]; exact info_h)
              obtain ⟨YL, hYL⟩ : ∃ L, bvs (eh (UInt8.ofNat bm)) = L := ⟨_, rfl⟩
              rw [hYL] at hyc hey SYL hYB
              rw [show (.agg (bvs (eh (UInt8.ofNat bm))).toArray : Value) = .agg YB by rw [hYL, hYB]] at hyb
              have HYB := Lib.hid hyb
              have EY : Hid (∀ V : World, (binOp .eql 52 (.agg YL.toArray) (.agg YB)).run Try.prog V = .ok (.bool true) V) := Lib.hid (fun V => by rw [← hYB]; exact hey V)
              have HYW : Hid (∀ j v, YL[j]? = some v → w8.cell? ((⟨ad2.block, ad2.off + 992, none⟩ : Addr).add j) = some v) := Lib.hid hyc
              clear hlb hbm hyb hey hYL hYB hyc
              have hc0 : w8.cell? ⟨b12, 0, none⟩ = some (.slice (some ad) 32 x3) := E8.out.cell 0
              have hc1 : w8.cell? ⟨b12, 1, none⟩ = some (.slice (some ad2) 32 y4) := E8.out.cell 1
              clear hxy1 hxy2 hcl
              obtain ⟨wHAM1, wHAM2⟩ := HAM.out
              obtain ⟨wHBM1, wHBM2⟩ := HBM.out
              go_upto_region 21 with fail
              simp only [List.append]
              go_wp2_with (first
                | go_skip
                | (refine wpList_load_any19 ?_ 52 (.tmp 106) (by rfl) ⟨ad2.block, ad2.off + 992, none⟩ (by rfl) YL _ HYW.out Try.underlying52 rfl SYL.out ?_; rfl)
                | (refine wpList_madeW ?_ 52 [(0, .tmp 110)] (by rfl) [(0, .int .u8 (bm : Int))] (by rfl) (.agg YB) HYB.out ?_; rfl)
                | (refine wpList_eq_agg_w ?_ .eql 52 _ (.tmp 107) (.tmp 111) (by rfl) YL.toArray YB (by rfl) (by rfl) (by kernel_rfl) (.bool true) (EY.out _) ?_; rfl)
                | fail)
              go_ret
              exact ⟨rfl, K8.out.below (Nat.le_refl _) (fun _ _ => id)⟩
            · by_cases cb0 : b = 0
              · have hxy1 := HXY.out.1
                have hxy2 := HXY.out.2
                obtain rfl : x = 32 := by omega
                obtain rfl : y = 0 := by omega
                have hfv : f = 13 := by rw [HF.out, if_pos (by omega)]
                subst hfv
                obtain rfl : b = 0 := by omega
                have hz0 : ((0 : Nat) : Int) = 0 := rfl
                have hai : (32 : Int) < (a : Int) := by omega
                have hai2 : ¬ (a : Int) ≤ 32 := by omega
                have hai3 : decide ((a : Int) ≤ 32) = false := decide_eq_false hai2
                have hcl := HC.out
                have hclb : cl ≤ 2306 := by omega
                have hcl2 : (cl : Int) = 1282 := by omega
                have hla := HLA.out (by omega)
                obtain ⟨am, ham⟩ : ∃ z, a - 1 = z := ⟨_, rfl⟩
                have ham2 : am ≤ 49 := by omega
                have ham3 : (am : Int) < (a : Int) := by omega
                have HAM : Hid (wrap64 ((a : Int) - 1) = (am : Int) ∧ (a : Int) - 1 = (am : Int)) := Lib.hid (wr19 (by omega) (by omega) (by omega))
                have hla : dl[31]? = some (ek (a - 1)) := hla
                rw [ham] at hla
                obtain ⟨ad, rfl, _, hkc⟩ := keys_at L8.out.1 hla
                have hk0 : w8.cell? ⟨ad.block, ad.off + 1023, none⟩ = some (.int .u64 (am : Int)) := hkc 0 (.int .u64 (am : Int)) rfl
                clear hla ham hkc
                have hc0 : w8.cell? ⟨b12, 0, none⟩ = some (.slice (some ad) 32 x3) := E8.out.cell 0
                have hc1 : w8.cell? ⟨b12, 1, none⟩ = some (.slice Y4 0 y4) := E8.out.cell 1
                clear hxy1 hxy2 hcl
                obtain ⟨wHAM1, wHAM2⟩ := HAM.out
                go_upto_region 21 with fail
                simp only [List.append]
                go_wp2_with (first
                  | fail)
                go_ret
                exact ⟨rfl, K8.out.below (Nat.le_refl _) (fun _ _ => id)⟩
              · have hxy1 := HXY.out.1
                have hxy2 := HXY.out.2
                obtain rfl : x = 32 := by omega
                obtain rfl : b = y := by omega
                have hfv : f = 13 := by rw [HF.out, if_pos (by omega)]
                subst hfv
                have hb1 : ¬ (b : Int) = 0 := by omega
                have hb1b : ((b : Int) == 0) = false := beq_eq_false_iff_ne.2 hb1
                have hai : (32 : Int) < (a : Int) := by omega
                have hai2 : ¬ (a : Int) ≤ 32 := by omega
                have hai3 : decide ((a : Int) ≤ 32) = false := decide_eq_false hai2
                have hbi : ¬ (32 : Int) < (b : Int) := by omega
                have hbi2 : (b : Int) ≤ 32 := by omega
                have hcl := HC.out
                obtain ⟨p32, hp32⟩ : ∃ z, 32 * b = z := ⟨_, rfl⟩
                have H32 : Hid (wrap64 (32 * (b : Int)) = (p32 : Int) ∧ 32 * (b : Int) = (p32 : Int)) := Lib.hid (wr19 (by omega) (by omega) (by omega))
                have hp32b : p32 ≤ 1024 := by omega
                have hclb : cl ≤ 2306 := by omega
                have HS : Hid (wrap64 ((1282 : Int) + (p32 : Int)) = (cl : Int) ∧ (1282 : Int) + (p32 : Int) = (cl : Int)) := Lib.hid (wr19 (by omega) (by omega) (by omega))
                have hla := HLA.out (by omega)
                obtain ⟨am, ham⟩ : ∃ z, a - 1 = z := ⟨_, rfl⟩
                have ham2 : am ≤ 49 := by omega
                have ham3 : (am : Int) < (a : Int) := by omega
                have HAM : Hid (wrap64 ((a : Int) - 1) = (am : Int) ∧ (a : Int) - 1 = (am : Int)) := Lib.hid (wr19 (by omega) (by omega) (by omega))
                have hla : dl[31]? = some (ek (a - 1)) := hla
                rw [ham] at hla
                obtain ⟨ad, rfl, _, hkc⟩ := keys_at L8.out.1 hla
                have hk0 : w8.cell? ⟨ad.block, ad.off + 1023, none⟩ = some (.int .u64 (am : Int)) := hkc 0 (.int .u64 (am : Int)) rfl
                clear hla ham hkc
                have hlb := HLB.out (by omega)
                obtain ⟨bm, hbm⟩ : ∃ z, b - 1 = z := ⟨_, rfl⟩
                have hbm2 : bm ≤ 49 := by omega
                have hbm3 : (bm : Int) < (b : Int) := by omega
                have HBM : Hid (wrap64 ((b : Int) - 1) = (bm : Int) ∧ (b : Int) - 1 = (bm : Int)) := Lib.hid (wr19 (by omega) (by omega) (by omega))
                rw [hbm] at hlb
                obtain ⟨ad2, rfl, _, hyc⟩ := hashes_at L8.out.2 hlb
                have hyb := build_eh (UInt8.ofNat bm)
                rw [byte_nat bm (by omega)] at hyb
                have hey : ∀ V : World, (binOp .eql 52 (.agg (bvs (eh (UInt8.ofNat bm))).toArray) (.agg (bvs (eh (UInt8.ofNat bm))).toArray)).run Try.prog V = .ok (.bool true) V := fun V => by have h := run_eql_hash (eh (UInt8.ofNat bm)) (eh (UInt8.ofNat bm)) (eh_ok _) (eh_ok _) V; rwa [decide_eq_true rfl] at h
                obtain ⟨YB, hYB⟩ : ∃ L, (bvs (eh (UInt8.ofNat bm))).toArray = L := ⟨_, rfl⟩
                have SYL : Hid ((Try.prog.info? 52).map (·.size) = some (bvs (eh (UInt8.ofNat bm))).length) := Lib.hid (by rw [bvs_length, eh_ok]; exact info_h)
                obtain ⟨YL, hYL⟩ : ∃ L, bvs (eh (UInt8.ofNat bm)) = L := ⟨_, rfl⟩
                rw [hYL] at hyc hey SYL hYB
                rw [show (.agg (bvs (eh (UInt8.ofNat bm))).toArray : Value) = .agg YB by rw [hYL, hYB]] at hyb
                have HYB := Lib.hid hyb
                have EY : Hid (∀ V : World, (binOp .eql 52 (.agg YL.toArray) (.agg YB)).run Try.prog V = .ok (.bool true) V) := Lib.hid (fun V => by rw [← hYB]; exact hey V)
                have HYW : Hid (∀ j v, YL[j]? = some v → w8.cell? ((ad2.add (bm * 32) : Addr).add j) = some v) := Lib.hid hyc
                clear hlb hbm hyb hey hYL hYB hyc
                have hc0 : w8.cell? ⟨b12, 0, none⟩ = some (.slice (some ad) 32 x3) := E8.out.cell 0
                have hc1 : w8.cell? ⟨b12, 1, none⟩ = some (.slice (some ad2) b y4) := E8.out.cell 1
                clear hxy1 hxy2 hcl hp32
                have wHS2 := HS.out.2
                obtain ⟨wHAM1, wHAM2⟩ := HAM.out
                obtain ⟨wHBM1, wHBM2⟩ := HBM.out
                have wH322 := H32.out.2
                go_upto_region 21 with fail
                simp only [List.append]
                go_wp2_with (first
                  | go_skip
                  | (refine wpList_load_any19 ?_ 52 (.tmp 106) (by rfl) (ad2.add (bm * 32)) (by rfl) YL _ HYW.out Try.underlying52 rfl SYL.out ?_; rfl)
                  | (refine wpList_madeW ?_ 52 [(0, .tmp 110)] (by rfl) [(0, .int .u8 (bm : Int))] (by rfl) (.agg YB) HYB.out ?_; rfl)
                  | (refine wpList_eq_agg_w ?_ .eql 52 _ (.tmp 107) (.tmp 111) (by rfl) YL.toArray YB (by rfl) (by rfl) (by kernel_rfl) (.bool true) (EY.out _) ?_; rfl)
                  | fail)
                go_ret
                exact ⟨rfl, K8.out.below (Nat.le_refl _) (fun _ _ => id)⟩
          · by_cases ca0 : a = 0
            · skip
              by_cases cb : 32 < b
              · have hxy1 := HXY.out.1
                have hxy2 := HXY.out.2
                obtain rfl : x = 0 := by omega
                obtain rfl : y = 32 := by omega
                have hfv : f = 13 := by rw [HF.out, if_pos (by omega)]
                subst hfv
                obtain rfl : a = 0 := by omega
                have hz0 : ((0 : Nat) : Int) = 0 := rfl
                have hbi : (32 : Int) < (b : Int) := by omega
                have hbi2 : ¬ (b : Int) ≤ 32 := by omega
                have hbi3 : decide ((b : Int) ≤ 32) = false := decide_eq_false hbi2
                have hcl := HC.out
                have hclb : cl ≤ 2306 := by omega
                have hcl2 : (cl : Int) = 1026 := by omega
                have hlb := HLB.out (by omega)
                obtain ⟨bm, hbm⟩ : ∃ z, b - 1 = z := ⟨_, rfl⟩
                have hbm2 : bm ≤ 49 := by omega
                have hbm3 : (bm : Int) < (b : Int) := by omega
                have HBM : Hid (wrap64 ((b : Int) - 1) = (bm : Int) ∧ (b : Int) - 1 = (bm : Int)) := Lib.hid (wr19 (by omega) (by omega) (by omega))
                have hlb : fl[31]? = some (eh (UInt8.ofNat (b - 1))) := hlb
                rw [hbm] at hlb
                obtain ⟨ad2, rfl, _, hyc⟩ := hashes_at L8.out.2 hlb
                have hyb := build_eh (UInt8.ofNat bm)
                rw [byte_nat bm (by omega)] at hyb
                have hey : ∀ V : World, (binOp .eql 52 (.agg (bvs (eh (UInt8.ofNat bm))).toArray) (.agg (bvs (eh (UInt8.ofNat bm))).toArray)).run Try.prog V = .ok (.bool true) V := fun V => by have h := run_eql_hash (eh (UInt8.ofNat bm)) (eh (UInt8.ofNat bm)) (eh_ok _) (eh_ok _) V; rwa [decide_eq_true rfl] at h
                obtain ⟨YB, hYB⟩ : ∃ L, (bvs (eh (UInt8.ofNat bm))).toArray = L := ⟨_, rfl⟩
                have SYL : Hid ((Try.prog.info? 52).map (·.size) = some (bvs (eh (UInt8.ofNat bm))).length) := Lib.hid (by rw [bvs_length, eh_ok]; exact info_h)
                obtain ⟨YL, hYL⟩ : ∃ L, bvs (eh (UInt8.ofNat bm)) = L := ⟨_, rfl⟩
                rw [hYL] at hyc hey SYL hYB
                rw [show (.agg (bvs (eh (UInt8.ofNat bm))).toArray : Value) = .agg YB by rw [hYL, hYB]] at hyb
                have HYB := Lib.hid hyb
                have EY : Hid (∀ V : World, (binOp .eql 52 (.agg YL.toArray) (.agg YB)).run Try.prog V = .ok (.bool true) V) := Lib.hid (fun V => by rw [← hYB]; exact hey V)
                have HYW : Hid (∀ j v, YL[j]? = some v → w8.cell? ((⟨ad2.block, ad2.off + 992, none⟩ : Addr).add j) = some v) := Lib.hid hyc
                clear hlb hbm hyb hey hYL hYB hyc
                have hc0 : w8.cell? ⟨b12, 0, none⟩ = some (.slice X3 0 x3) := E8.out.cell 0
                have hc1 : w8.cell? ⟨b12, 1, none⟩ = some (.slice (some ad2) 32 y4) := E8.out.cell 1
                clear hxy1 hxy2 hcl
                obtain ⟨wHBM1, wHBM2⟩ := HBM.out
                go_upto_region 21 with fail
                simp only [List.append]
                go_wp2_with (first
                  | go_skip
                  | (refine wpList_load_any19 ?_ 52 (.tmp 106) (by rfl) ⟨ad2.block, ad2.off + 992, none⟩ (by rfl) YL _ HYW.out Try.underlying52 rfl SYL.out ?_; rfl)
                  | (refine wpList_madeW ?_ 52 [(0, .tmp 110)] (by rfl) [(0, .int .u8 (bm : Int))] (by rfl) (.agg YB) HYB.out ?_; rfl)
                  | (refine wpList_eq_agg_w ?_ .eql 52 _ (.tmp 107) (.tmp 111) (by rfl) YL.toArray YB (by rfl) (by rfl) (by kernel_rfl) (.bool true) (EY.out _) ?_; rfl)
                  | fail)
                go_ret
                exact ⟨rfl, K8.out.below (Nat.le_refl _) (fun _ _ => id)⟩
              · by_cases cb0 : b = 0
                · have hxy1 := HXY.out.1
                  have hxy2 := HXY.out.2
                  obtain rfl : x = 0 := by omega
                  obtain rfl : y = 0 := by omega
                  have hfv : f = 0 := by rw [HF.out, if_neg (by omega)]
                  subst hfv
                  obtain rfl : a = 0 := by omega
                  obtain rfl : b = 0 := by omega
                  have hz0 : ((0 : Nat) : Int) = 0 := rfl
                  have hcl := HC.out
                  have hclb : cl ≤ 2306 := by omega
                  have hcl2 : (cl : Int) = 2 := by omega
                  have hc0 : w8.cell? ⟨b12, 0, none⟩ = some (.slice X3 0 x3) := E8.out.cell 0
                  have hc1 : w8.cell? ⟨b12, 1, none⟩ = some (.slice Y4 0 y4) := E8.out.cell 1
                  clear hxy1 hxy2 hcl
                  go_upto_region 21 with fail
                  simp only [List.append]
                  go_wp2_with (first
                    | fail)
                  go_ret
                  exact ⟨rfl, K8.out.below (Nat.le_refl _) (fun _ _ => id)⟩
                · have hxy1 := HXY.out.1
                  have hxy2 := HXY.out.2
                  obtain rfl : x = 0 := by omega
                  obtain rfl : b = y := by omega
                  have hfv : f = 0 := by rw [HF.out, if_neg (by omega)]
                  subst hfv
                  obtain rfl : a = 0 := by omega
                  have hz0 : ((0 : Nat) : Int) = 0 := rfl
                  have hb1 : ¬ (b : Int) = 0 := by omega
                  have hb1b : ((b : Int) == 0) = false := beq_eq_false_iff_ne.2 hb1
                  have hbi : ¬ (32 : Int) < (b : Int) := by omega
                  have hbi2 : (b : Int) ≤ 32 := by omega
                  have hcl := HC.out
                  obtain ⟨p32, hp32⟩ : ∃ z, 32 * b = z := ⟨_, rfl⟩
                  have H32 : Hid (wrap64 (32 * (b : Int)) = (p32 : Int) ∧ 32 * (b : Int) = (p32 : Int)) := Lib.hid (wr19 (by omega) (by omega) (by omega))
                  have hp32b : p32 ≤ 1024 := by omega
                  have hclb : cl ≤ 2306 := by omega
                  have HS : Hid (wrap64 ((2 : Int) + (p32 : Int)) = (cl : Int) ∧ (2 : Int) + (p32 : Int) = (cl : Int)) := Lib.hid (wr19 (by omega) (by omega) (by omega))
                  have hlb := HLB.out (by omega)
                  obtain ⟨bm, hbm⟩ : ∃ z, b - 1 = z := ⟨_, rfl⟩
                  have hbm2 : bm ≤ 49 := by omega
                  have hbm3 : (bm : Int) < (b : Int) := by omega
                  have HBM : Hid (wrap64 ((b : Int) - 1) = (bm : Int) ∧ (b : Int) - 1 = (bm : Int)) := Lib.hid (wr19 (by omega) (by omega) (by omega))
                  rw [hbm] at hlb
                  obtain ⟨ad2, rfl, _, hyc⟩ := hashes_at L8.out.2 hlb
                  have hyb := build_eh (UInt8.ofNat bm)
                  rw [byte_nat bm (by omega)] at hyb
                  have hey : ∀ V : World, (binOp .eql 52 (.agg (bvs (eh (UInt8.ofNat bm))).toArray) (.agg (bvs (eh (UInt8.ofNat bm))).toArray)).run Try.prog V = .ok (.bool true) V := fun V => by have h := run_eql_hash (eh (UInt8.ofNat bm)) (eh (UInt8.ofNat bm)) (eh_ok _) (eh_ok _) V; rwa [decide_eq_true rfl] at h
                  obtain ⟨YB, hYB⟩ : ∃ L, (bvs (eh (UInt8.ofNat bm))).toArray = L := ⟨_, rfl⟩
                  have SYL : Hid ((Try.prog.info? 52).map (·.size) = some (bvs (eh (UInt8.ofNat bm))).length) := Lib.hid (by rw [bvs_length, eh_ok]; exact info_h)
                  obtain ⟨YL, hYL⟩ : ∃ L, bvs (eh (UInt8.ofNat bm)) = L := ⟨_, rfl⟩
                  rw [hYL] at hyc hey SYL hYB
                  rw [show (.agg (bvs (eh (UInt8.ofNat bm))).toArray : Value) = .agg YB by rw [hYL, hYB]] at hyb
                  have HYB := Lib.hid hyb
                  have EY : Hid (∀ V : World, (binOp .eql 52 (.agg YL.toArray) (.agg YB)).run Try.prog V = .ok (.bool true) V) := Lib.hid (fun V => by rw [← hYB]; exact hey V)
                  have HYW : Hid (∀ j v, YL[j]? = some v → w8.cell? ((ad2.add (bm * 32) : Addr).add j) = some v) := Lib.hid hyc
                  clear hlb hbm hyb hey hYL hYB hyc
                  have hc0 : w8.cell? ⟨b12, 0, none⟩ = some (.slice X3 0 x3) := E8.out.cell 0
                  have hc1 : w8.cell? ⟨b12, 1, none⟩ = some (.slice (some ad2) b y4) := E8.out.cell 1
                  clear hxy1 hxy2 hcl hp32
                  have wHS2 := HS.out.2
                  obtain ⟨wHBM1, wHBM2⟩ := HBM.out
                  have wH322 := H32.out.2
                  go_upto_region 21 with fail
                  simp only [List.append]
                  go_wp2_with (first
                    | go_skip
                    | (refine wpList_load_any19 ?_ 52 (.tmp 106) (by rfl) (ad2.add (bm * 32)) (by rfl) YL _ HYW.out Try.underlying52 rfl SYL.out ?_; rfl)
                    | (refine wpList_madeW ?_ 52 [(0, .tmp 110)] (by rfl) [(0, .int .u8 (bm : Int))] (by rfl) (.agg YB) HYB.out ?_; rfl)
                    | (refine wpList_eq_agg_w ?_ .eql 52 _ (.tmp 107) (.tmp 111) (by rfl) YL.toArray YB (by rfl) (by rfl) (by kernel_rfl) (.bool true) (EY.out _) ?_; rfl)
                    | fail)
                  go_ret
                  exact ⟨rfl, K8.out.below (Nat.le_refl _) (fun _ _ => id)⟩
            · skip
              by_cases cb : 32 < b
              · have hxy1 := HXY.out.1
                have hxy2 := HXY.out.2
                obtain rfl : a = x := by omega
                obtain rfl : y = 32 := by omega
                have hfv : f = 13 := by rw [HF.out, if_pos (by omega)]
                subst hfv
                have ha1 : ¬ (a : Int) = 0 := by omega
                have ha1b : ((a : Int) == 0) = false := beq_eq_false_iff_ne.2 ha1
                have hai : ¬ (32 : Int) < (a : Int) := by omega
                have hai2 : (a : Int) ≤ 32 := by omega
                have hbi : (32 : Int) < (b : Int) := by omega
                have hbi2 : ¬ (b : Int) ≤ 32 := by omega
                have hbi3 : decide ((b : Int) ≤ 32) = false := decide_eq_false hbi2
                have hcl := HC.out
                obtain ⟨p40, hp40⟩ : ∃ z, 40 * a = z := ⟨_, rfl⟩
                obtain ⟨p42, hp42⟩ : ∃ z, 2 + p40 = z := ⟨_, rfl⟩
                have H40 : Hid (wrap64 (40 * (a : Int)) = (p40 : Int) ∧ 40 * (a : Int) = (p40 : Int)) := Lib.hid (wr19 (by omega) (by omega) (by omega))
                have H42 : Hid (wrap64 (2 + (p40 : Int)) = (p42 : Int) ∧ 2 + (p40 : Int) = (p42 : Int)) := Lib.hid (wr19 (by omega) (by omega) (by omega))
                have hp40b : p40 ≤ 1280 := by omega
                have hp42b : p42 ≤ 1282 := by omega
                have hclb : cl ≤ 2306 := by omega
                have HS : Hid (wrap64 ((p42 : Int) + 1024) = (cl : Int) ∧ (p42 : Int) + 1024 = (cl : Int)) := Lib.hid (wr19 (by omega) (by omega) (by omega))
                have hla := HLA.out (by omega)
                obtain ⟨am, ham⟩ : ∃ z, a - 1 = z := ⟨_, rfl⟩
                have ham2 : am ≤ 49 := by omega
                have ham3 : (am : Int) < (a : Int) := by omega
                have HAM : Hid (wrap64 ((a : Int) - 1) = (am : Int) ∧ (a : Int) - 1 = (am : Int)) := Lib.hid (wr19 (by omega) (by omega) (by omega))
                rw [ham] at hla
                obtain ⟨ad, rfl, _, hkc⟩ := keys_at L8.out.1 hla
                have hk0 : w8.cell? (ad.add (am * 33)) = some (.int .u64 (am : Int)) := hkc 0 (.int .u64 (am : Int)) rfl
                clear hla ham hkc
                have hlb := HLB.out (by omega)
                obtain ⟨bm, hbm⟩ : ∃ z, b - 1 = z := ⟨_, rfl⟩
                have hbm2 : bm ≤ 49 := by omega
                have hbm3 : (bm : Int) < (b : Int) := by omega
                have HBM : Hid (wrap64 ((b : Int) - 1) = (bm : Int) ∧ (b : Int) - 1 = (bm : Int)) := Lib.hid (wr19 (by omega) (by omega) (by omega))
                have hlb : fl[31]? = some (eh (UInt8.ofNat (b - 1))) := hlb
                rw [hbm] at hlb
                obtain ⟨ad2, rfl, _, hyc⟩ := hashes_at L8.out.2 hlb
                have hyb := build_eh (UInt8.ofNat bm)
                rw [byte_nat bm (by omega)] at hyb
                have hey : ∀ V : World, (binOp .eql 52 (.agg (bvs (eh (UInt8.ofNat bm))).toArray) (.agg (bvs (eh (UInt8.ofNat bm))).toArray)).run Try.prog V = .ok (.bool true) V := fun V => by have h := run_eql_hash (eh (UInt8.ofNat bm)) (eh (UInt8.ofNat bm)) (eh_ok _) (eh_ok _) V; rwa [decide_eq_true rfl] at h
                obtain ⟨YB, hYB⟩ : ∃ L, (bvs (eh (UInt8.ofNat bm))).toArray = L := ⟨_, rfl⟩
                have SYL : Hid ((Try.prog.info? 52).map (·.size) = some (bvs (eh (UInt8.ofNat bm))).length) := Lib.hid (by rw [bvs_length, eh_ok]; exact info_h)
                obtain ⟨YL, hYL⟩ : ∃ L, bvs (eh (UInt8.ofNat bm)) = L := ⟨_, rfl⟩
                rw [hYL] at hyc hey SYL hYB
                rw [show (.agg (bvs (eh (UInt8.ofNat bm))).toArray : Value) = .agg YB by rw [hYL, hYB]] at hyb
                have HYB := Lib.hid hyb
                have EY : Hid (∀ V : World, (binOp .eql 52 (.agg YL.toArray) (.agg YB)).run Try.prog V = .ok (.bool true) V) := Lib.hid (fun V => by rw [← hYB]; exact hey V)
                have HYW : Hid (∀ j v, YL[j]? = some v → w8.cell? ((⟨ad2.block, ad2.off + 992, none⟩ : Addr).add j) = some v) := Lib.hid hyc
                clear hlb hbm hyb hey hYL hYB hyc
                have hc0 : w8.cell? ⟨b12, 0, none⟩ = some (.slice (some ad) a x3) := E8.out.cell 0
                have hc1 : w8.cell? ⟨b12, 1, none⟩ = some (.slice (some ad2) 32 y4) := E8.out.cell 1
                clear hxy1 hxy2 hcl hp40 hp42
                have wHS2 := HS.out.2
                obtain ⟨wHAM1, wHAM2⟩ := HAM.out
                obtain ⟨wHBM1, wHBM2⟩ := HBM.out
                have wH402 := H40.out.2
                have wH422 := H42.out.2
                go_upto_region 21 with fail
                simp only [List.append]
                go_wp2_with (first
                  | go_skip
                  | (refine wpList_load_any19 ?_ 52 (.tmp 106) (by rfl) ⟨ad2.block, ad2.off + 992, none⟩ (by rfl) YL _ HYW.out Try.underlying52 rfl SYL.out ?_; rfl)
                  | (refine wpList_madeW ?_ 52 [(0, .tmp 110)] (by rfl) [(0, .int .u8 (bm : Int))] (by rfl) (.agg YB) HYB.out ?_; rfl)
                  | (refine wpList_eq_agg_w ?_ .eql 52 _ (.tmp 107) (.tmp 111) (by rfl) YL.toArray YB (by rfl) (by rfl) (by kernel_rfl) (.bool true) (EY.out _) ?_; rfl)
                  | fail)
                go_ret
                exact ⟨rfl, K8.out.below (Nat.le_refl _) (fun _ _ => id)⟩
              · by_cases cb0 : b = 0
                · have hxy1 := HXY.out.1
                  have hxy2 := HXY.out.2
                  obtain rfl : a = x := by omega
                  obtain rfl : y = 0 := by omega
                  have hfv : f = 0 := by rw [HF.out, if_neg (by omega)]
                  subst hfv
                  obtain rfl : b = 0 := by omega
                  have hz0 : ((0 : Nat) : Int) = 0 := rfl
                  have ha1 : ¬ (a : Int) = 0 := by omega
                  have ha1b : ((a : Int) == 0) = false := beq_eq_false_iff_ne.2 ha1
                  have hai : ¬ (32 : Int) < (a : Int) := by omega
                  have hai2 : (a : Int) ≤ 32 := by omega
                  have hcl := HC.out
                  obtain ⟨p40, hp40⟩ : ∃ z, 40 * a = z := ⟨_, rfl⟩
                  obtain ⟨p42, hp42⟩ : ∃ z, 2 + p40 = z := ⟨_, rfl⟩
                  have H40 : Hid (wrap64 (40 * (a : Int)) = (p40 : Int) ∧ 40 * (a : Int) = (p40 : Int)) := Lib.hid (wr19 (by omega) (by omega) (by omega))
                  have H42 : Hid (wrap64 (2 + (p40 : Int)) = (p42 : Int) ∧ 2 + (p40 : Int) = (p42 : Int)) := Lib.hid (wr19 (by omega) (by omega) (by omega))
                  have hp40b : p40 ≤ 1280 := by omega
                  have hp42b : p42 ≤ 1282 := by omega
                  have hclb : cl ≤ 2306 := by omega
                  obtain rfl : p42 = cl := by omega
                  have HS : Hid (wrap64 (p42 : Int) = (p42 : Int) ∧ (p42 : Int) = (p42 : Int)) := Lib.hid (wr19 rfl (by omega) (by omega))
                  have hla := HLA.out (by omega)
                  obtain ⟨am, ham⟩ : ∃ z, a - 1 = z := ⟨_, rfl⟩
                  have ham2 : am ≤ 49 := by omega
                  have ham3 : (am : Int) < (a : Int) := by omega
                  have HAM : Hid (wrap64 ((a : Int) - 1) = (am : Int) ∧ (a : Int) - 1 = (am : Int)) := Lib.hid (wr19 (by omega) (by omega) (by omega))
                  rw [ham] at hla
                  obtain ⟨ad, rfl, _, hkc⟩ := keys_at L8.out.1 hla
                  have hk0 : w8.cell? (ad.add (am * 33)) = some (.int .u64 (am : Int)) := hkc 0 (.int .u64 (am : Int)) rfl
                  clear hla ham hkc
                  have hc0 : w8.cell? ⟨b12, 0, none⟩ = some (.slice (some ad) a x3) := E8.out.cell 0
                  have hc1 : w8.cell? ⟨b12, 1, none⟩ = some (.slice Y4 0 y4) := E8.out.cell 1
                  clear hxy1 hxy2 hcl hp40 hp42
                  obtain ⟨wHAM1, wHAM2⟩ := HAM.out
                  have wH402 := H40.out.2
                  have wH422 := H42.out.2
                  go_upto_region 21 with fail
                  simp only [List.append]
                  go_wp2_with (first
                    | fail)
                  go_ret
                  exact ⟨rfl, K8.out.below (Nat.le_refl _) (fun _ _ => id)⟩
                · have hxy1 := HXY.out.1
                  have hxy2 := HXY.out.2
                  obtain rfl : a = x := by omega
                  obtain rfl : b = y := by omega
                  have hfv : f = 0 := by rw [HF.out, if_neg (by omega)]
                  subst hfv
                  have ha1 : ¬ (a : Int) = 0 := by omega
                  have ha1b : ((a : Int) == 0) = false := beq_eq_false_iff_ne.2 ha1
                  have hb1 : ¬ (b : Int) = 0 := by omega
                  have hb1b : ((b : Int) == 0) = false := beq_eq_false_iff_ne.2 hb1
                  have hai : ¬ (32 : Int) < (a : Int) := by omega
                  have hai2 : (a : Int) ≤ 32 := by omega
                  have hbi : ¬ (32 : Int) < (b : Int) := by omega
                  have hbi2 : (b : Int) ≤ 32 := by omega
                  have hcl := HC.out
                  obtain ⟨p40, hp40⟩ : ∃ z, 40 * a = z := ⟨_, rfl⟩
                  obtain ⟨p42, hp42⟩ : ∃ z, 2 + p40 = z := ⟨_, rfl⟩
                  have H40 : Hid (wrap64 (40 * (a : Int)) = (p40 : Int) ∧ 40 * (a : Int) = (p40 : Int)) := Lib.hid (wr19 (by omega) (by omega) (by omega))
                  have H42 : Hid (wrap64 (2 + (p40 : Int)) = (p42 : Int) ∧ 2 + (p40 : Int) = (p42 : Int)) := Lib.hid (wr19 (by omega) (by omega) (by omega))
                  obtain ⟨p32, hp32⟩ : ∃ z, 32 * b = z := ⟨_, rfl⟩
                  have H32 : Hid (wrap64 (32 * (b : Int)) = (p32 : Int) ∧ 32 * (b : Int) = (p32 : Int)) := Lib.hid (wr19 (by omega) (by omega) (by omega))
                  have hp40b : p40 ≤ 1280 := by omega
                  have hp42b : p42 ≤ 1282 := by omega
                  have hp32b : p32 ≤ 1024 := by omega
                  have hclb : cl ≤ 2306 := by omega
                  have HS : Hid (wrap64 ((p42 : Int) + (p32 : Int)) = (cl : Int) ∧ (p42 : Int) + (p32 : Int) = (cl : Int)) := Lib.hid (wr19 (by omega) (by omega) (by omega))
                  have hla := HLA.out (by omega)
                  obtain ⟨am, ham⟩ : ∃ z, a - 1 = z := ⟨_, rfl⟩
                  have ham2 : am ≤ 49 := by omega
                  have ham3 : (am : Int) < (a : Int) := by omega
                  have HAM : Hid (wrap64 ((a : Int) - 1) = (am : Int) ∧ (a : Int) - 1 = (am : Int)) := Lib.hid (wr19 (by omega) (by omega) (by omega))
                  rw [ham] at hla
                  obtain ⟨ad, rfl, _, hkc⟩ := keys_at L8.out.1 hla
                  have hk0 : w8.cell? (ad.add (am * 33)) = some (.int .u64 (am : Int)) := hkc 0 (.int .u64 (am : Int)) rfl
                  clear hla ham hkc
                  have hlb := HLB.out (by omega)
                  obtain ⟨bm, hbm⟩ : ∃ z, b - 1 = z := ⟨_, rfl⟩
                  have hbm2 : bm ≤ 49 := by omega
                  have hbm3 : (bm : Int) < (b : Int) := by omega
                  have HBM : Hid (wrap64 ((b : Int) - 1) = (bm : Int) ∧ (b : Int) - 1 = (bm : Int)) := Lib.hid (wr19 (by omega) (by omega) (by omega))
                  rw [hbm] at hlb
                  obtain ⟨ad2, rfl, _, hyc⟩ := hashes_at L8.out.2 hlb
                  have hyb := build_eh (UInt8.ofNat bm)
                  rw [byte_nat bm (by omega)] at hyb
                  have hey : ∀ V : World, (binOp .eql 52 (.agg (bvs (eh (UInt8.ofNat bm))).toArray) (.agg (bvs (eh (UInt8.ofNat bm))).toArray)).run Try.prog V = .ok (.bool true) V := fun V => by have h := run_eql_hash (eh (UInt8.ofNat bm)) (eh (UInt8.ofNat bm)) (eh_ok _) (eh_ok _) V; rwa [decide_eq_true rfl] at h
                  obtain ⟨YB, hYB⟩ : ∃ L, (bvs (eh (UInt8.ofNat bm))).toArray = L := ⟨_, rfl⟩
                  have SYL : Hid ((Try.prog.info? 52).map (·.size) = some (bvs (eh (UInt8.ofNat bm))).length) := Lib.hid (by rw [bvs_length, eh_ok]; exact info_h)
                  obtain ⟨YL, hYL⟩ : ∃ L, bvs (eh (UInt8.ofNat bm)) = L := ⟨_, rfl⟩
                  rw [hYL] at hyc hey SYL hYB
                  rw [show (.agg (bvs (eh (UInt8.ofNat bm))).toArray : Value) = .agg YB by rw [hYL, hYB]] at hyb
                  have HYB := Lib.hid hyb
                  have EY : Hid (∀ V : World, (binOp .eql 52 (.agg YL.toArray) (.agg YB)).run Try.prog V = .ok (.bool true) V) := Lib.hid (fun V => by rw [← hYB]; exact hey V)
                  have HYW : Hid (∀ j v, YL[j]? = some v → w8.cell? ((ad2.add (bm * 32) : Addr).add j) = some v) := Lib.hid hyc
                  clear hlb hbm hyb hey hYL hYB hyc
                  have hc0 : w8.cell? ⟨b12, 0, none⟩ = some (.slice (some ad) a x3) := E8.out.cell 0
                  have hc1 : w8.cell? ⟨b12, 1, none⟩ = some (.slice (some ad2) b y4) := E8.out.cell 1
                  clear hxy1 hxy2 hcl hp40 hp42 hp32
                  have wHS2 := HS.out.2
                  obtain ⟨wHAM1, wHAM2⟩ := HAM.out
                  obtain ⟨wHBM1, wHBM2⟩ := HBM.out
                  have wH402 := H40.out.2
                  have wH422 := H42.out.2
                  have wH322 := H32.out.2
                  go_upto_region 21 with fail
                  simp only [List.append]
                  go_wp2_with (first
                    | go_skip
                    | (refine wpList_load_any19 ?_ 52 (.tmp 106) (by rfl) (ad2.add (bm * 32)) (by rfl) YL _ HYW.out Try.underlying52 rfl SYL.out ?_; rfl)
                    | (refine wpList_madeW ?_ 52 [(0, .tmp 110)] (by rfl) [(0, .int .u8 (bm : Int))] (by rfl) (.agg YB) HYB.out ?_; rfl)
                    | (refine wpList_eq_agg_w ?_ .eql 52 _ (.tmp 107) (.tmp 111) (by rfl) YL.toArray YB (by rfl) (by rfl) (by kernel_rfl) (.bool true) (EY.out _) ?_; rfl)
                    | fail)
                  go_ret
                  exact ⟨rfl, K8.out.below (Nat.le_refl _) (fun _ _ => id)⟩
end Go.Proofs.Ytmjpaopobnhckaa
