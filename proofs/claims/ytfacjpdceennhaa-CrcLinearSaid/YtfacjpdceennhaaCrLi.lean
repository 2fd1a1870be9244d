/-
  The law CrcLinear walked: of three rows of one length the sum of all three, xor one another, is the sums, xor one another. WRITTEN BY wip/gen/mkcrli.py.
-/
import Derived.Test.YtfacjpdceennhaaCrRo
import Derived.Test.YtfacjpdceennhaaWalkR
import Derived.Test.YtfacjpdceennhaaLoc
namespace Go.Proofs.Ytfacjpdceennhaa
open Go.RowKit Go.BigFrame
set_option linter.unusedVariables false

theorem min_three {P : Program} (w : World) (ts : Array TypeId) (t : TypeId) (a b c n : Nat) (h : min (min a b) c = n) : (Builtin.min_ ts t #[.int .i64 (a : Int), .int .i64 (b : Int), .int .i64 (c : Int)]).run P w = .ok (.int .i64 (n : Int)) w := by
  have e : (if (c : Int) < (if (b : Int) < (a : Int) then (b : Int) else (a : Int)) then (c : Int) else (if (b : Int) < (a : Int) then (b : Int) else (a : Int))) = (n : Int) := by
    split <;> split <;> omega
  rw [← e]
  simp [Builtin.min_, Builtin.min2]
/-- What is made so far. -/
def linRow (xs : List UInt8) (i : Nat) : List UInt8 := xs.take i ++ List.replicate (xs.length - i) 0
theorem linRow_zero (xs : List UInt8) : linRow xs 0 = List.replicate xs.length 0 := by simp [linRow]
theorem linRow_all (xs : List UInt8) : linRow xs xs.length = xs := by simp [linRow]
theorem linRow_length (xs : List UInt8) (i : Nat) (h : i ≤ xs.length) : (linRow xs i).length = xs.length := by simp [linRow]; omega
theorem linRow_set (xs : List UInt8) (i : Nat) (x : UInt8) (h : xs[i]? = some x) : (linRow xs i).set i x = linRow xs (i + 1) := by
  have hi := (List.getElem?_eq_some_iff.1 h).1
  have e1 : (xs.take i).length = i := by rw [List.length_take]; omega
  have e2 : List.replicate (xs.length - i) (0 : UInt8) = 0 :: List.replicate (xs.length - (i + 1)) 0 := by
    rw [show xs.length - i = (xs.length - (i + 1)) + 1 by omega, List.replicate_succ]
  unfold linRow
  rw [List.set_append_right _ _ (by omega), e1, Nat.sub_self, e2, List.set_cons_zero, List.take_add_one, h, Option.toList_some, List.append_assoc]
  rfl
theorem linRow_cell (xs : List UInt8) (i : Nat) (h : i < xs.length) : (linRow xs i)[i]? = some 0 := by
  have e1 : (xs.take i).length = i := by rw [List.length_take]; omega
  unfold linRow
  rw [List.getElem?_append_right (by omega), e1, Nat.sub_self, List.getElem?_replicate, if_pos (by omega)]
theorem xor_u8 (x y : UInt8) : bits .xor .u8 (x.toNat : Int) (y.toNat : Int) = ((x ^^^ y).toNat : Int) := by
  rw [u8_xor_nat _ _ x.toNat_lt y.toNat_lt, UInt8.toNat_xor]
set_option maxRecDepth 100000 in
set_option maxHeartbeats 1000000 in
theorem crli_long (A B C : Option Addr) (la ca lb cb lc cc n : Nat) (W : World) (hm : min (min la lb) lc = n) (hlen : 300 < n) (ha : la ≤ 9223372036854775807) (hb : lb ≤ 9223372036854775807) (hc : lc ≤ 9223372036854775807) :
    Calls Try.prog 6 #[.slice A la ca, .slice B lb cb, .slice C lc cc] W fun e W' => e = .returned (.bool true) ∧ Below W.heap.size W W' := by
  have HAW := Lib.hid (awake10_any W)
  have hl' : (300 : Int) < n := by omega
  have hm3 : ∀ (ts : Array TypeId) (t : TypeId) (V : World), (Builtin.min_ ts t #[.int .i64 (la : Int), .int .i64 (lb : Int), .int .i64 (lc : Int)]).run Try.prog V = .ok (.int .i64 (n : Int)) V := fun ts t V => min_three V ts t la lb lc n hm
  clear hm ha hb hc
  go_enter Try.func6, Try.ntmps6
  go_wp2_with fail
  refine HAW.out.mono ?_
  rintro e w3 ⟨rfl, k3⟩
  go_wp2
  go_ret
  exact ⟨rfl, keeps_belowC k3⟩
set_option maxRecDepth 100000 in
set_option maxHeartbeats 2000000 in
theorem crc_blk (A : Option Addr) (n c : Nat) (xs : List UInt8) (w : World) (hs : Src w A (bvs xs)) (hxn : xs.length = n) (hc : n ≤ c) (hm : c ≤ 9223372036854775807) (V : World) (hV : Later w V) (g : Nat) (fr : Nat × Nat) (hg : V.heap[g]? = some (.cells #[.slice A n c] 22 fr)) :
    Calls Try.prog 9 #[.slice (some ⟨g, 0, none⟩) 1 1] V fun e w' => e = .returned (.int .u32 (ci (Cr.sum xs))) ∧ Keeps (fun _ => False) V w' := by
  have h1 := crc_any (some ⟨g, 0, none⟩) 1 [(A, c, xs)] V (rowsAt_one (a := ⟨g, 0, none⟩) (r := (A, c, xs)) (by rw [add_plain, cell_of_row V g _ _ 22 fr hg]; show _ = some (Value.slice A xs.length c); rw [hxn]; rfl) (hs.keeps hV.out (fun _ _ _ => id)) ⟨by show xs.length ≤ c; omega, hm⟩) (by simp) (by simp; omega)
  rw [show bytesOf [(A, c, xs)] = xs by simp [bytesOf]] at h1
  exact h1
set_option maxRecDepth 100000 in
set_option maxHeartbeats 2000000 in
theorem crli_in (A B C : Option Addr) (la ca lb cb lc cc n : Nat) (pa pb pc : List UInt8) (W : World) (hm : min (min la lb) lc = n) (hlen : n ≤ 300) (hsa : Src W A (bvs pa)) (hsb : Src W B (bvs pb)) (hsc : Src W C (bvs pc))
    (hla : pa.length = la) (hlb : pb.length = lb) (hlc : pc.length = lc) (ha : la ≤ ca) (hb : lb ≤ cb) (hc : lc ≤ cc) (ha2 : ca ≤ 9223372036854775807) (hb2 : cb ≤ 9223372036854775807) (hc2 : cc ≤ 9223372036854775807) :
    Calls Try.prog 6 #[.slice A la ca, .slice B lb cb, .slice C lc cc] W fun e W' => e = .returned (.bool true) ∧ Below W.heap.size W W' := by
  obtain ⟨i0, hi0, hz0, hs0, hb0⟩ := info_parts info_u8c
  have HAW := Lib.hid (awake10_any W)
  have hl' : ¬ (300 : Int) < n := by omega
  have hna : n ≤ la := by omega
  have hnb : n ≤ lb := by omega
  have hnc : n ≤ lc := by omega
  have hm3 : ∀ (ts : Array TypeId) (t : TypeId) (V : World), (Builtin.min_ ts t #[.int .i64 (la : Int), .int .i64 (lb : Int), .int .i64 (lc : Int)]).run Try.prog V = .ok (.int .i64 (n : Int)) V := fun ts t V => min_three V ts t la lb lc n hm
  have xla : (pa.take n).length = n := by rw [List.length_take]; omega
  have xlb : (pb.take n).length = n := by rw [List.length_take]; omega
  have xlc : (pc.take n).length = n := by rw [List.length_take]; omega
  have hsa' := hsa.take n
  have hsb' := hsb.take n
  have hsc' := hsc.take n
  rw [bvs_take] at hsa' hsb' hsc'
  obtain ⟨xs, hxs⟩ : ∃ l, pa.take n = l := ⟨_, rfl⟩
  obtain ⟨ys, hys⟩ : ∃ l, pb.take n = l := ⟨_, rfl⟩
  obtain ⟨zs, hzs⟩ : ∃ l, pc.take n = l := ⟨_, rfl⟩
  rw [hxs] at xla hsa'
  rw [hys] at xlb hsb'
  rw [hzs] at xlc hsc'
  have hthree := Cr.sum_three xs ys zs (by omega) (by omega)
  obtain ⟨ds, hds⟩ : ∃ l, Cr.xors (Cr.xors xs ys) zs = l := ⟨_, rfl⟩
  have hdl : ds.length = n := by rw [← hds]; simp [Cr.xors]; omega
  have hdat : ∀ (i : Nat) (x y z : UInt8), xs[i]? = some x → ys[i]? = some y → zs[i]? = some z → ds[i]? = some (x ^^^ y ^^^ z) := fun i x y z h1 h2 h3 => by
    rw [← hds, Cr.xors, Cr.xors, List.getElem?_zipWith, List.getElem?_zipWith, h1, h2, h3]
  rw [hds] at hthree
  have HSA := Lib.hid hsa'
  have HSB := Lib.hid hsb'
  have HSC := Lib.hid hsc'
  have HLN := Lib.hid (And.intro xla (And.intro xlb (And.intro xlc hdl)))
  have HTH := Lib.hid hthree
  have HDA := Lib.hid hdat
  have HCP := Lib.hid (And.intro ha (And.intro hb (And.intro hc (And.intro ha2 (And.intro hb2 hc2)))))
  have HI := Lib.hid (And.intro hi0 (And.intro hz0 (And.intro hs0 hb0)))
  clear hm hsa hsb hsc hla hlb hlc hsa' hsb' hsc' hxs hys hzs xla xlb xlc hthree hds hdl hdat ha2 hb2 hc2 hi0 hz0 hs0 hb0
  go_enter Try.func6, Try.ntmps6
  go_wp2_with fail
  refine HAW.out.mono ?_
  rintro e w1 ⟨rfl, k1⟩
  clear HAW
  have SA1 := Lib.hid (HSA.out.keeps k1 (fun _ _ _ => id))
  have SB1 := Lib.hid (HSB.out.keeps k1 (fun _ _ _ => id))
  have SC1 := Lib.hid (HSC.out.keeps k1 (fun _ _ _ => id))
  have HW : Hid (∀ V, Keeps (fun k => w1.heap.size ≤ k) w1 V → Below W.heap.size W V) := Lib.hid (fun V hk => keeps_belowC (k1.trans' hk (fun i hi h => by have := k1.size; omega)))
  clear HSA HSB HSC k1
  go_wp2_with (at_make; refine wpList_make_full _ rfl (.tmp 23) (.tmp 23) 22 rfl w1.heap.size 5 i0 (.int .u8 0) 1 Try.underlying22 HI.out.1 HI.out.2.1 HI.out.2.2.1 .i64 .i64 n n n (by rfl) (by rfl) rfl rfl ?b2 ?b3 (Nat.le_refl _) ?next)
  case b2 => rw [HI.out.2.2.2]; omega
  case b3 => unfold maxLen; omega
  case next =>
  intro w5 o5 g5
  have e : (madeCells #[Value.int .u8 0] n).toList = bvs (linRow ds 0) := by
    rw [toList_madeCells_one, linRow_zero, HLN.out.2.2.2]
    simp [bvs, bv]
  rw [e] at o5
  obtain ⟨g, hg⟩ : ∃ g, w1.heap.size = g := ⟨_, rfl⟩
  have K5 : Keeps (fun k => w1.heap.size ≤ k) w1 w5 := (Keeps.refl _ w1).grown g5 (fun k _ h => by simp at h)
  rw [hg] at o5
  have HO5 : Hid (w5.ownsRow g 5 1 (.slice (some ⟨g, 0, none⟩) n n) n (bvs (linRow ds 0))) := o5
  have HK5 := Lib.hid K5
  have HG := Lib.hid hg
  clear e o5 g5 K5
  go_wp2_with fail
  go_loopw [10] (fun iv wr => ∃ i : Nat, i ≤ n ∧ iv = .int .i64 (i : Int) ∧ Hid (wr.ownsRow g 5 1 (.slice (some ⟨g, 0, none⟩) n n) n (bvs (linRow ds i))) ∧ Hid (Keeps (fun k => w1.heap.size ≤ k) w1 wr)) (fun iv _ => n - (intOf iv).toNat)
  case atStart => exact ⟨0, by omega, rfl, HO5, HK5⟩
  case round =>
    clear HO5 HK5
    obtain ⟨i, hi, rfl, HO, HK⟩ := hrel
    by_cases hlt : i < n
    · have hii : (i : Int) < (n : Int) := by omega
      have hilb : (i : Int) < (lb : Int) := by omega
      have hila : (i : Int) < (la : Int) := by omega
      have hilc : (i : Int) < (lc : Int) := by omega
      obtain ⟨xa, hxa⟩ : ∃ x, xs[i]? = some x := ⟨_, List.getElem?_eq_getElem (by rw [HLN.out.1]; exact hlt)⟩
      obtain ⟨xb, hxb⟩ : ∃ x, ys[i]? = some x := ⟨_, List.getElem?_eq_getElem (by rw [HLN.out.2.1]; exact hlt)⟩
      obtain ⟨xc, hxc⟩ : ∃ x, zs[i]? = some x := ⟨_, List.getElem?_eq_getElem (by rw [HLN.out.2.2.1]; exact hlt)⟩
      have hkb : ∀ k, k < w1.heap.size → ¬ w1.heap.size ≤ k := fun k h1 h2 => by omega
      obtain ⟨aa, rfl, hca⟩ := (SA1.out.keeps HK.out (fun a _ h => hkb _ h)) i (bv xa) (by rw [bvs_get, hxa]; rfl)
      obtain ⟨ab, rfl, hcb⟩ := (SB1.out.keeps HK.out (fun a _ h => hkb _ h)) i (bv xb) (by rw [bvs_get, hxb]; rfl)
      obtain ⟨ac, rfl, hcc⟩ := (SC1.out.keeps HK.out (fun a _ h => hkb _ h)) i (bv xc) (by rw [bvs_get, hxc]; rfl)
      have hdi := HDA.out i xa xb xc hxa hxb hxc
      have hset := linRow_set ds i _ hdi
      have hcell0 : wr.cell? ⟨g, i, none⟩ = some (.int .u8 0) := by rw [HO.out.cellAt i (by omega), bvs_get, linRow_cell ds i (by rw [HLN.out.2.2.2]; exact hlt)]; rfl
      have cellL : ∀ (p : Addr) (v : Value) V, Later wr V → wr.cell? p = some v → V.cell? p = some v := fun p v V hV hc => (hV.out.cell (World.block_lt_of_cell? wr _ hc) id).trans hc
      have CA : Hid (∀ V, Later wr V → V.cell? (aa.add i) = some (.int .u8 (xa.toNat : Int))) := Lib.hid (fun V hV => cellL _ _ V hV hca)
      have CB : Hid (∀ V, Later wr V → V.cell? (ab.add i) = some (.int .u8 (xb.toNat : Int))) := Lib.hid (fun V hV => cellL _ _ V hV hcb)
      have CC : Hid (∀ V, Later wr V → V.cell? (ac.add i) = some (.int .u8 (xc.toNat : Int))) := Lib.hid (fun V hV => cellL _ _ V hV hcc)
      have HOL : Hid (∀ V, Later wr V → V.ownsRow g 5 1 (.slice (some ⟨g, 0, none⟩) n n) n (bvs (linRow ds i))) := Lib.hid (fun V hV => hV.out.owns HO.out (fun _ _ => id))
      have HX1 := Lib.hid (xor_u8 xa xb)
      have HX2 := Lib.hid (xor_u8 (xa ^^^ xb) xc)
      have HST := Lib.hid hset
      have HC0 : Hid (∀ V, Later wr V → V.cell? ⟨g, i, none⟩ = some (.int .u8 0)) := Lib.hid (fun V hV => cellL _ _ V hV hcell0)
      clear hca hcb hcc hdi hset hcell0 cellL hxa hxb hxc hkb
      go_wp2_with fail
      refine wp_region_phase 17 (Later wr) (by kernel_rfl) (by kernel_rfl) (⟨(Keeps.refl _ _).drew⟩) ?_
      simp only [List.take_succ_cons, List.take_zero, List.drop_succ_cons, List.drop_zero]
      refine class_value (by rfl) (.slice (some ⟨g, 0, none⟩) n n) (fun V hV => by go_simp) ?_
      simp only [Act.put, List.setIfInBounds_toArray, List.set_cons_zero, List.set_cons_succ]
      refine class_value (by rfl) (.int .i64 (i : Int)) (fun V hV => by go_simp) ?_
      simp only [Act.put, List.setIfInBounds_toArray, List.set_cons_zero, List.set_cons_succ]
      refine class_value (by rfl) (.slice (some aa) la ca) (fun V hV => by go_simp) ?_
      simp only [Act.put, List.setIfInBounds_toArray, List.set_cons_zero, List.set_cons_succ]
      refine class_value (by rfl) (.int .i64 (i : Int)) (fun V hV => by go_simp) ?_
      simp only [Act.put, List.setIfInBounds_toArray, List.set_cons_zero, List.set_cons_succ]
      refine class_value (by rfl) (.pointer (some (aa.add i))) (fun V hV => by go_simp) ?_
      simp only [Act.put, List.setIfInBounds_toArray, List.set_cons_zero, List.set_cons_succ]
      refine class_cell (by rfl) 5 (.tmp 34) (by rfl) (aa.add i) (by rfl) (.int .u8 (xa.toNat : Int)) _ (fun V hV => CA.out V hV) Try.underlying5 rfl ?_
      simp only [Act.put, List.setIfInBounds_toArray, List.set_cons_zero, List.set_cons_succ]
      refine class_value (by rfl) (.slice (some ab) lb cb) (fun V hV => by go_simp) ?_
      simp only [Act.put, List.setIfInBounds_toArray, List.set_cons_zero, List.set_cons_succ]
      refine class_value (by rfl) (.int .i64 (i : Int)) (fun V hV => by go_simp) ?_
      simp only [Act.put, List.setIfInBounds_toArray, List.set_cons_zero, List.set_cons_succ]
      refine class_value (by rfl) (.pointer (some (ab.add i))) (fun V hV => by go_simp) ?_
      simp only [Act.put, List.setIfInBounds_toArray, List.set_cons_zero, List.set_cons_succ]
      refine class_cell (by rfl) 5 (.tmp 38) (by rfl) (ab.add i) (by rfl) (.int .u8 (xb.toNat : Int)) _ (fun V hV => CB.out V hV) Try.underlying5 rfl ?_
      simp only [Act.put, List.setIfInBounds_toArray, List.set_cons_zero, List.set_cons_succ]
      refine class_value (by rfl) (.int .u8 ((xa ^^^ xb).toNat : Int)) (fun V hV => by go_simp; exact HX1.out) ?_
      simp only [Act.put, List.setIfInBounds_toArray, List.set_cons_zero, List.set_cons_succ]
      refine class_value (by rfl) (.slice (some ac) lc cc) (fun V hV => by go_simp) ?_
      simp only [Act.put, List.setIfInBounds_toArray, List.set_cons_zero, List.set_cons_succ]
      refine class_value (by rfl) (.int .i64 (i : Int)) (fun V hV => by go_simp) ?_
      simp only [Act.put, List.setIfInBounds_toArray, List.set_cons_zero, List.set_cons_succ]
      refine class_value (by rfl) (.pointer (some (ac.add i))) (fun V hV => by go_simp) ?_
      simp only [Act.put, List.setIfInBounds_toArray, List.set_cons_zero, List.set_cons_succ]
      refine class_cell (by rfl) 5 (.tmp 43) (by rfl) (ac.add i) (by rfl) (.int .u8 (xc.toNat : Int)) _ (fun V hV => CC.out V hV) Try.underlying5 rfl ?_
      simp only [Act.put, List.setIfInBounds_toArray, List.set_cons_zero, List.set_cons_succ]
      refine class_value (by rfl) (.int .u8 ((xa ^^^ xb ^^^ xc).toNat : Int)) (fun V hV => by go_simp; exact HX2.out) ?_
      simp only [Act.put, List.setIfInBounds_toArray, List.set_cons_zero, List.set_cons_succ]
      refine class_value (by rfl) (.pointer (some ⟨g, i, none⟩)) (fun V hV => by go_simp) ?_
      simp only [Act.put, List.setIfInBounds_toArray, List.set_cons_zero, List.set_cons_succ]
      refine wpQuiet_nil ?_
      intro w6 k6
      have hcell := HC0.out w6 k6
      have hfr := (HOL.out w6 k6).frozenAt i
      have hst := ((HOL.out w6 k6).stored i (bv (xa ^^^ xb ^^^ xc))).1
      have hkp : Keeps (fun k => w1.heap.size ≤ k) w1 w6 := HK.out.trans (k6.out.mono (fun _ _ h => h.elim))
      rw [show (bvs (linRow ds i)).set i (bv (xa ^^^ xb ^^^ xc)) = bvs (linRow ds (i + 1)) by rw [← HST.out, bvs, bvs, List.map_set]] at hst
      have HS2 := Lib.hid hst
      have HKP := Lib.hid hkp
      clear hst hkp HOL CA CB CC HX1 HX2 HST HC0 HO HK k6
      go_wp2
      go_roundw
      case rel =>
        go_light
        exact ⟨i + 1, by omega, by go_num, HS2, Lib.hid (HKP.out.setCell (fun _ => by show w1.heap.size ≤ g; rw [HG.out]; exact Nat.le_refl _) _)⟩
      case measure => simp [intOf]; omega
    · obtain rfl : n = i := by omega
      clear HG
      subst hg
      have hkb : ∀ k, k < w1.heap.size → ¬ w1.heap.size ≤ k := fun k h1 h2 => by omega
      have sa := SA1.out.keeps HK.out (fun a _ h => hkb _ h)
      have sb := SB1.out.keeps HK.out (fun a _ h => hkb _ h)
      have sc := SC1.out.keeps HK.out (fun a _ h => hkb _ h)
      have sd : Src wr (some ⟨w1.heap.size, 0, none⟩) (bvs ds) := by
        have h := Src.of_own HO.out
        rwa [show linRow ds n = ds by have := linRow_all ds; rwa [HLN.out.2.2.2] at this] at h
      obtain ⟨X, hX⟩ : ∃ X, ci (Cr.sum ds) = X := ⟨_, rfl⟩
      obtain ⟨XA, hXA⟩ : ∃ X, ci (Cr.sum xs) = X := ⟨_, rfl⟩
      obtain ⟨XB, hXB⟩ : ∃ X, ci (Cr.sum ys) = X := ⟨_, rfl⟩
      obtain ⟨XC, hXC⟩ : ∃ X, ci (Cr.sum zs) = X := ⟨_, rfl⟩
      obtain ⟨XAB, hXAB⟩ : ∃ X, ci (Cr.sum xs ^^^ Cr.sum ys) = X := ⟨_, rfl⟩
      have HXAB : Hid (bits .xor .u32 XA XB = XAB) := Lib.hid (by rw [← hXA, ← hXB, ci_xor, hXAB])
      have HXX : Hid (bits .xor .u32 XAB XC = X) := Lib.hid (by rw [← hXAB, ← hXC, ci_xor, ← hX, HTH.out])
      have HD := Lib.hid (crc_blk (some ⟨w1.heap.size, 0, none⟩) n n ds wr sd HLN.out.2.2.2 (Nat.le_refl _) (by omega))
      have HA := Lib.hid (crc_blk A n ca xs wr sa HLN.out.1 (by omega) HCP.out.2.2.2.1)
      have HB := Lib.hid (crc_blk B n cb ys wr sb HLN.out.2.1 (by omega) HCP.out.2.2.2.2.1)
      have HC := Lib.hid (crc_blk C n cc zs wr sc HLN.out.2.2.1 (by omega) HCP.out.2.2.2.2.2)
      rw [hX] at HD
      rw [hXA] at HA
      rw [hXB] at HB
      rw [hXC] at HC
      have hnca : (n : Int) ≤ (ca : Int) := by omega
      have hncb : (n : Int) ≤ (cb : Int) := by omega
      have hncc : (n : Int) ≤ (cc : Int) := by omega
      have hn0 : (0 : Int) ≤ (n : Int) := by omega
      have FIN : Hid (∀ V, Later wr V → Below W.heap.size W V) := Lib.hid (fun V hV => HW.out _ (HK.out.trans (hV.out.mono (fun _ _ h => h.elim))))
      clear hX hXA hXB hXC hXAB sa sb sc sd hkb HTH HO HK HDA SA1 SB1 SC1 HLN
      go_wp2_with fail
      refine wp_region_local [fun v _ => v = (.slice (some ⟨w1.heap.size, 0, none⟩) n n), MadeS wr 22 #[.slice (some ⟨w1.heap.size, 0, none⟩) n n] 1, fun v _ => v = (.int .u32 X), fun v _ => v = (.slice A la ca), fun v _ => v = (.int .i64 (n : Int)), fun v _ => v = (.slice A n ca), MadeS wr 22 #[.slice A n ca] 1, fun v _ => v = (.int .u32 XA), fun v _ => v = (.slice B lb cb), fun v _ => v = (.int .i64 (n : Int)), fun v _ => v = (.slice B n cb), MadeS wr 22 #[.slice B n cb] 1, fun v _ => v = (.int .u32 XB), fun v _ => v = (.int .u32 XAB), fun v _ => v = (.slice C lc cc), fun v _ => v = (.int .i64 (n : Int)), fun v _ => v = (.slice C n cc), MadeS wr 22 #[.slice C n cc] 1, fun v _ => v = (.int .u32 XC), fun v _ => v = (.int .u32 X), fun v _ => v = (.bool true), fun v _ => v = (.bool true)] (by kernel_rfl) (by kernel_rfl) ?_ ?_
      · refine ⟨Step.value _ ?_, ?_⟩
        · intro b V hl hk
          obtain ⟨e0, -⟩ := hk
          have f9 : b.eval (.tmp 9) = (.slice (some ⟨w1.heap.size, 0, none⟩) n n) := e0
          have fC : ∀ v, b.eval (.const v) = v := fun _ => rfl
          have fF : ∀ f, b.eval (.func f) = .func (.func f) #[] #[] := fun _ => rfl
          have fG : ∀ g, b.eval (.global g) = .pointer (some ⟨g, 0, none⟩) := fun _ => rfl
          exact ⟨wanted_none (by rfl) _, congrArg (fun z => Result.ok (Next.value z) V) f9⟩
        refine ⟨Step.loose (fun v w w' h hs => h.soft hs) ?_, ?_⟩
        · intro b V hl hk
          obtain ⟨e0, -⟩ := hk
          have f47 : b.eval (.tmp 47) = (.slice (some ⟨w1.heap.size, 0, none⟩) n n) := e0
          have fC : ∀ v, b.eval (.const v) = v := fun _ => rfl
          have fF : ∀ f, b.eval (.func f) = .func (.func f) #[] #[] := fun _ => rfl
          have fG : ∀ g, b.eval (.global g) = .pointer (some ⟨g, 0, none⟩) := fun _ => rfl
          exact ⟨wanted_none (by rfl) _, made_one 31 22 (.tmp 47) (.slice (some ⟨w1.heap.size, 0, none⟩) n n) (by rfl) f47 hl (fun _ => by go_simp)⟩
        refine ⟨Step.call _ 9 ?_, ?_⟩
        · intro b V hl hk
          obtain ⟨e0, -⟩ := hk
          have q48 : (MadeS wr 22 #[.slice (some ⟨w1.heap.size, 0, none⟩) n n] 1) (b.eval (.tmp 48)) V := e0
          obtain ⟨gp, f48, hgp, frp, hbp⟩ := q48
          have m48 : (MadeS wr 22 #[.slice (some ⟨w1.heap.size, 0, none⟩) n n] 1) (.slice (some ⟨gp, 0, none⟩) 1 1) V := by rw [← f48]; exact e0
          have fC : ∀ v, b.eval (.const v) = v := fun _ => rfl
          have fF : ∀ f, b.eval (.func f) = .func (.func f) #[] #[] := fun _ => rfl
          have fG : ∀ g, b.eval (.global g) = .pointer (some ⟨g, 0, none⟩) := fun _ => rfl
          refine ⟨wanted_none (by rfl) _, #[.slice (some ⟨gp, 0, none⟩) 1 1], ?_, HD.out V hl gp frp hbp⟩
          revert f48 fC fF fG; generalize b.eval = ρ; intro f48 fC fF fG; simp only [execOp]; go_simp
        refine ⟨Step.value _ ?_, ?_⟩
        · intro b V hl hk
          obtain ⟨e0, -⟩ := hk
          have f0 : b.eval (.tmp 0) = (.slice A la ca) := e0
          have fC : ∀ v, b.eval (.const v) = v := fun _ => rfl
          have fF : ∀ f, b.eval (.func f) = .func (.func f) #[] #[] := fun _ => rfl
          have fG : ∀ g, b.eval (.global g) = .pointer (some ⟨g, 0, none⟩) := fun _ => rfl
          exact ⟨wanted_none (by rfl) _, congrArg (fun z => Result.ok (Next.value z) V) f0⟩
        refine ⟨Step.value _ ?_, ?_⟩
        · intro b V hl hk
          obtain ⟨e0, -⟩ := hk
          have f8 : b.eval (.tmp 8) = (.int .i64 (n : Int)) := e0
          have fC : ∀ v, b.eval (.const v) = v := fun _ => rfl
          have fF : ∀ f, b.eval (.func f) = .func (.func f) #[] #[] := fun _ => rfl
          have fG : ∀ g, b.eval (.global g) = .pointer (some ⟨g, 0, none⟩) := fun _ => rfl
          exact ⟨wanted_none (by rfl) _, congrArg (fun z => Result.ok (Next.value z) V) f8⟩
        refine ⟨Step.value _ ?_, ?_⟩
        · intro b V hl hk
          obtain ⟨e0, e1, -⟩ := hk
          have f50 : b.eval (.tmp 50) = (.slice A la ca) := e0
          have f51 : b.eval (.tmp 51) = (.int .i64 (n : Int)) := e1
          have fC : ∀ v, b.eval (.const v) = v := fun _ => rfl
          have fF : ∀ f, b.eval (.func f) = .func (.func f) #[] #[] := fun _ => rfl
          have fG : ∀ g, b.eval (.global g) = .pointer (some ⟨g, 0, none⟩) := fun _ => rfl
          exact ⟨wanted_none (by rfl) _, by revert f50 f51 fC fF fG; generalize b.eval = ρ; intro f50 f51 fC fF fG; simp only [execOp]; go_simp⟩
        refine ⟨Step.loose (fun v w w' h hs => h.soft hs) ?_, ?_⟩
        · intro b V hl hk
          obtain ⟨e0, -⟩ := hk
          have f52 : b.eval (.tmp 52) = (.slice A n ca) := e0
          have fC : ∀ v, b.eval (.const v) = v := fun _ => rfl
          have fF : ∀ f, b.eval (.func f) = .func (.func f) #[] #[] := fun _ => rfl
          have fG : ∀ g, b.eval (.global g) = .pointer (some ⟨g, 0, none⟩) := fun _ => rfl
          exact ⟨wanted_none (by rfl) _, made_one 31 22 (.tmp 52) (.slice A n ca) (by rfl) f52 hl (fun _ => by go_simp)⟩
        refine ⟨Step.call _ 9 ?_, ?_⟩
        · intro b V hl hk
          obtain ⟨e0, -⟩ := hk
          have q53 : (MadeS wr 22 #[.slice A n ca] 1) (b.eval (.tmp 53)) V := e0
          obtain ⟨gq, f53, hgq, frq, hbq⟩ := q53
          have m53 : (MadeS wr 22 #[.slice A n ca] 1) (.slice (some ⟨gq, 0, none⟩) 1 1) V := by rw [← f53]; exact e0
          have fC : ∀ v, b.eval (.const v) = v := fun _ => rfl
          have fF : ∀ f, b.eval (.func f) = .func (.func f) #[] #[] := fun _ => rfl
          have fG : ∀ g, b.eval (.global g) = .pointer (some ⟨g, 0, none⟩) := fun _ => rfl
          refine ⟨wanted_none (by rfl) _, #[.slice (some ⟨gq, 0, none⟩) 1 1], ?_, HA.out V hl gq frq hbq⟩
          revert f53 fC fF fG; generalize b.eval = ρ; intro f53 fC fF fG; simp only [execOp]; go_simp
        refine ⟨Step.value _ ?_, ?_⟩
        · intro b V hl hk
          obtain ⟨e0, -⟩ := hk
          have f1 : b.eval (.tmp 1) = (.slice B lb cb) := e0
          have fC : ∀ v, b.eval (.const v) = v := fun _ => rfl
          have fF : ∀ f, b.eval (.func f) = .func (.func f) #[] #[] := fun _ => rfl
          have fG : ∀ g, b.eval (.global g) = .pointer (some ⟨g, 0, none⟩) := fun _ => rfl
          exact ⟨wanted_none (by rfl) _, congrArg (fun z => Result.ok (Next.value z) V) f1⟩
        refine ⟨Step.value _ ?_, ?_⟩
        · intro b V hl hk
          obtain ⟨e0, -⟩ := hk
          have f8 : b.eval (.tmp 8) = (.int .i64 (n : Int)) := e0
          have fC : ∀ v, b.eval (.const v) = v := fun _ => rfl
          have fF : ∀ f, b.eval (.func f) = .func (.func f) #[] #[] := fun _ => rfl
          have fG : ∀ g, b.eval (.global g) = .pointer (some ⟨g, 0, none⟩) := fun _ => rfl
          exact ⟨wanted_none (by rfl) _, congrArg (fun z => Result.ok (Next.value z) V) f8⟩
        refine ⟨Step.value _ ?_, ?_⟩
        · intro b V hl hk
          obtain ⟨e0, e1, -⟩ := hk
          have f55 : b.eval (.tmp 55) = (.slice B lb cb) := e0
          have f56 : b.eval (.tmp 56) = (.int .i64 (n : Int)) := e1
          have fC : ∀ v, b.eval (.const v) = v := fun _ => rfl
          have fF : ∀ f, b.eval (.func f) = .func (.func f) #[] #[] := fun _ => rfl
          have fG : ∀ g, b.eval (.global g) = .pointer (some ⟨g, 0, none⟩) := fun _ => rfl
          exact ⟨wanted_none (by rfl) _, by revert f55 f56 fC fF fG; generalize b.eval = ρ; intro f55 f56 fC fF fG; simp only [execOp]; go_simp⟩
        refine ⟨Step.loose (fun v w w' h hs => h.soft hs) ?_, ?_⟩
        · intro b V hl hk
          obtain ⟨e0, -⟩ := hk
          have f57 : b.eval (.tmp 57) = (.slice B n cb) := e0
          have fC : ∀ v, b.eval (.const v) = v := fun _ => rfl
          have fF : ∀ f, b.eval (.func f) = .func (.func f) #[] #[] := fun _ => rfl
          have fG : ∀ g, b.eval (.global g) = .pointer (some ⟨g, 0, none⟩) := fun _ => rfl
          exact ⟨wanted_none (by rfl) _, made_one 31 22 (.tmp 57) (.slice B n cb) (by rfl) f57 hl (fun _ => by go_simp)⟩
        refine ⟨Step.call _ 9 ?_, ?_⟩
        · intro b V hl hk
          obtain ⟨e0, -⟩ := hk
          have q58 : (MadeS wr 22 #[.slice B n cb] 1) (b.eval (.tmp 58)) V := e0
          obtain ⟨gr, f58, hgr, frr, hbr⟩ := q58
          have m58 : (MadeS wr 22 #[.slice B n cb] 1) (.slice (some ⟨gr, 0, none⟩) 1 1) V := by rw [← f58]; exact e0
          have fC : ∀ v, b.eval (.const v) = v := fun _ => rfl
          have fF : ∀ f, b.eval (.func f) = .func (.func f) #[] #[] := fun _ => rfl
          have fG : ∀ g, b.eval (.global g) = .pointer (some ⟨g, 0, none⟩) := fun _ => rfl
          refine ⟨wanted_none (by rfl) _, #[.slice (some ⟨gr, 0, none⟩) 1 1], ?_, HB.out V hl gr frr hbr⟩
          revert f58 fC fF fG; generalize b.eval = ρ; intro f58 fC fF fG; simp only [execOp]; go_simp
        refine ⟨Step.value _ ?_, ?_⟩
        · intro b V hl hk
          obtain ⟨e0, e1, -⟩ := hk
          have f54 : b.eval (.tmp 54) = (.int .u32 XA) := e0
          have f59 : b.eval (.tmp 59) = (.int .u32 XB) := e1
          have fC : ∀ v, b.eval (.const v) = v := fun _ => rfl
          have fF : ∀ f, b.eval (.func f) = .func (.func f) #[] #[] := fun _ => rfl
          have fG : ∀ g, b.eval (.global g) = .pointer (some ⟨g, 0, none⟩) := fun _ => rfl
          exact ⟨wanted_none (by rfl) _, by revert f54 f59 fC fF fG; generalize b.eval = ρ; intro f54 f59 fC fF fG; simp only [execOp]; go_simp; exact HXAB.out⟩
        refine ⟨Step.value _ ?_, ?_⟩
        · intro b V hl hk
          obtain ⟨e0, -⟩ := hk
          have f2 : b.eval (.tmp 2) = (.slice C lc cc) := e0
          have fC : ∀ v, b.eval (.const v) = v := fun _ => rfl
          have fF : ∀ f, b.eval (.func f) = .func (.func f) #[] #[] := fun _ => rfl
          have fG : ∀ g, b.eval (.global g) = .pointer (some ⟨g, 0, none⟩) := fun _ => rfl
          exact ⟨wanted_none (by rfl) _, congrArg (fun z => Result.ok (Next.value z) V) f2⟩
        refine ⟨Step.value _ ?_, ?_⟩
        · intro b V hl hk
          obtain ⟨e0, -⟩ := hk
          have f8 : b.eval (.tmp 8) = (.int .i64 (n : Int)) := e0
          have fC : ∀ v, b.eval (.const v) = v := fun _ => rfl
          have fF : ∀ f, b.eval (.func f) = .func (.func f) #[] #[] := fun _ => rfl
          have fG : ∀ g, b.eval (.global g) = .pointer (some ⟨g, 0, none⟩) := fun _ => rfl
          exact ⟨wanted_none (by rfl) _, congrArg (fun z => Result.ok (Next.value z) V) f8⟩
        refine ⟨Step.value _ ?_, ?_⟩
        · intro b V hl hk
          obtain ⟨e0, e1, -⟩ := hk
          have f61 : b.eval (.tmp 61) = (.slice C lc cc) := e0
          have f62 : b.eval (.tmp 62) = (.int .i64 (n : Int)) := e1
          have fC : ∀ v, b.eval (.const v) = v := fun _ => rfl
          have fF : ∀ f, b.eval (.func f) = .func (.func f) #[] #[] := fun _ => rfl
          have fG : ∀ g, b.eval (.global g) = .pointer (some ⟨g, 0, none⟩) := fun _ => rfl
          exact ⟨wanted_none (by rfl) _, by revert f61 f62 fC fF fG; generalize b.eval = ρ; intro f61 f62 fC fF fG; simp only [execOp]; go_simp⟩
        refine ⟨Step.loose (fun v w w' h hs => h.soft hs) ?_, ?_⟩
        · intro b V hl hk
          obtain ⟨e0, -⟩ := hk
          have f63 : b.eval (.tmp 63) = (.slice C n cc) := e0
          have fC : ∀ v, b.eval (.const v) = v := fun _ => rfl
          have fF : ∀ f, b.eval (.func f) = .func (.func f) #[] #[] := fun _ => rfl
          have fG : ∀ g, b.eval (.global g) = .pointer (some ⟨g, 0, none⟩) := fun _ => rfl
          exact ⟨wanted_none (by rfl) _, made_one 31 22 (.tmp 63) (.slice C n cc) (by rfl) f63 hl (fun _ => by go_simp)⟩
        refine ⟨Step.call _ 9 ?_, ?_⟩
        · intro b V hl hk
          obtain ⟨e0, -⟩ := hk
          have q64 : (MadeS wr 22 #[.slice C n cc] 1) (b.eval (.tmp 64)) V := e0
          obtain ⟨gs, f64, hgs, frs, hbs⟩ := q64
          have m64 : (MadeS wr 22 #[.slice C n cc] 1) (.slice (some ⟨gs, 0, none⟩) 1 1) V := by rw [← f64]; exact e0
          have fC : ∀ v, b.eval (.const v) = v := fun _ => rfl
          have fF : ∀ f, b.eval (.func f) = .func (.func f) #[] #[] := fun _ => rfl
          have fG : ∀ g, b.eval (.global g) = .pointer (some ⟨g, 0, none⟩) := fun _ => rfl
          refine ⟨wanted_none (by rfl) _, #[.slice (some ⟨gs, 0, none⟩) 1 1], ?_, HC.out V hl gs frs hbs⟩
          revert f64 fC fF fG; generalize b.eval = ρ; intro f64 fC fF fG; simp only [execOp]; go_simp
        refine ⟨Step.value _ ?_, ?_⟩
        · intro b V hl hk
          obtain ⟨e0, e1, -⟩ := hk
          have f60 : b.eval (.tmp 60) = (.int .u32 XAB) := e0
          have f65 : b.eval (.tmp 65) = (.int .u32 XC) := e1
          have fC : ∀ v, b.eval (.const v) = v := fun _ => rfl
          have fF : ∀ f, b.eval (.func f) = .func (.func f) #[] #[] := fun _ => rfl
          have fG : ∀ g, b.eval (.global g) = .pointer (some ⟨g, 0, none⟩) := fun _ => rfl
          exact ⟨wanted_none (by rfl) _, by revert f60 f65 fC fF fG; generalize b.eval = ρ; intro f60 f65 fC fF fG; simp only [execOp]; go_simp; exact HXX.out⟩
        refine ⟨Step.value _ ?_, ?_⟩
        · intro b V hl hk
          obtain ⟨e0, e1, -⟩ := hk
          have f49 : b.eval (.tmp 49) = (.int .u32 X) := e0
          have f66 : b.eval (.tmp 66) = (.int .u32 X) := e1
          have fC : ∀ v, b.eval (.const v) = v := fun _ => rfl
          have fF : ∀ f, b.eval (.func f) = .func (.func f) #[] #[] := fun _ => rfl
          have fG : ∀ g, b.eval (.global g) = .pointer (some ⟨g, 0, none⟩) := fun _ => rfl
          exact ⟨wanted_none (by rfl) _, by revert f49 f66 fC fF fG; generalize b.eval = ρ; intro f49 f66 fC fF fG; simp only [execOp]; go_simp⟩
        refine ⟨Step.value _ ?_, ?_⟩
        · intro b V hl hk
          obtain ⟨e0, -⟩ := hk
          have f67 : b.eval (.tmp 67) = (.bool true) := e0
          have fC : ∀ v, b.eval (.const v) = v := fun _ => rfl
          have fF : ∀ f, b.eval (.func f) = .func (.func f) #[] #[] := fun _ => rfl
          have fG : ∀ g, b.eval (.global g) = .pointer (some ⟨g, 0, none⟩) := fun _ => rfl
          exact ⟨wanted_none (by rfl) _, congrArg (fun z => Result.ok (Next.value z) V) f67⟩
        exact trivial
      intro vs0 V hT0 hV
      obtain ⟨v0, vs1, rfl, h0, hT1⟩ := hT0.cons
      obtain rfl : v0 = (.slice (some ⟨w1.heap.size, 0, none⟩) n n) := h0
      obtain ⟨v1, vs2, rfl, h1, hT2⟩ := hT1.cons
      obtain ⟨gp, rfl, hgp, frp, hbp⟩ := h1
      obtain ⟨v2, vs3, rfl, h2, hT3⟩ := hT2.cons
      obtain rfl : v2 = (.int .u32 X) := h2
      obtain ⟨v3, vs4, rfl, h3, hT4⟩ := hT3.cons
      obtain rfl : v3 = (.slice A la ca) := h3
      obtain ⟨v4, vs5, rfl, h4, hT5⟩ := hT4.cons
      obtain rfl : v4 = (.int .i64 (n : Int)) := h4
      obtain ⟨v5, vs6, rfl, h5, hT6⟩ := hT5.cons
      obtain rfl : v5 = (.slice A n ca) := h5
      obtain ⟨v6, vs7, rfl, h6, hT7⟩ := hT6.cons
      obtain ⟨gq, rfl, hgq, frq, hbq⟩ := h6
      obtain ⟨v7, vs8, rfl, h7, hT8⟩ := hT7.cons
      obtain rfl : v7 = (.int .u32 XA) := h7
      obtain ⟨v8, vs9, rfl, h8, hT9⟩ := hT8.cons
      obtain rfl : v8 = (.slice B lb cb) := h8
      obtain ⟨v9, vs10, rfl, h9, hT10⟩ := hT9.cons
      obtain rfl : v9 = (.int .i64 (n : Int)) := h9
      obtain ⟨v10, vs11, rfl, h10, hT11⟩ := hT10.cons
      obtain rfl : v10 = (.slice B n cb) := h10
      obtain ⟨v11, vs12, rfl, h11, hT12⟩ := hT11.cons
      obtain ⟨gr, rfl, hgr, frr, hbr⟩ := h11
      obtain ⟨v12, vs13, rfl, h12, hT13⟩ := hT12.cons
      obtain rfl : v12 = (.int .u32 XB) := h12
      obtain ⟨v13, vs14, rfl, h13, hT14⟩ := hT13.cons
      obtain rfl : v13 = (.int .u32 XAB) := h13
      obtain ⟨v14, vs15, rfl, h14, hT15⟩ := hT14.cons
      obtain rfl : v14 = (.slice C lc cc) := h14
      obtain ⟨v15, vs16, rfl, h15, hT16⟩ := hT15.cons
      obtain rfl : v15 = (.int .i64 (n : Int)) := h15
      obtain ⟨v16, vs17, rfl, h16, hT17⟩ := hT16.cons
      obtain rfl : v16 = (.slice C n cc) := h16
      obtain ⟨v17, vs18, rfl, h17, hT18⟩ := hT17.cons
      obtain ⟨gs, rfl, hgs, frs, hbs⟩ := h17
      obtain ⟨v18, vs19, rfl, h18, hT19⟩ := hT18.cons
      obtain rfl : v18 = (.int .u32 XC) := h18
      obtain ⟨v19, vs20, rfl, h19, hT20⟩ := hT19.cons
      obtain rfl : v19 = (.int .u32 X) := h19
      obtain ⟨v20, vs21, rfl, h20, hT21⟩ := hT20.cons
      obtain rfl : v20 = (.bool true) := h20
      obtain ⟨v21, vs22, rfl, h21, hT22⟩ := hT21.cons
      obtain rfl : v21 = (.bool true) := h21
      obtain rfl := hT22.nil
      simp only [putAll, Act.put, List.setIfInBounds_toArray, List.set_cons_zero, List.set_cons_succ]
      go_wp2
      go_ret
      exact ⟨rfl, FIN.out V hV⟩
theorem crli_all (A : Option Addr) (la ca : Nat) (za : List Int) (B : Option Addr) (lb cb : Nat) (zb : List Int) (C : Option Addr) (lc cc : Nat) (zc : List Int) (W : World) (hA : IsRowU .u8 W A la ca za) (hB : IsRowU .u8 W B lb cb zb) (hC : IsRowU .u8 W C lc cc zc) :
    Calls Try.prog 6 #[.slice A la ca, .slice B lb cb, .slice C lc cc] W fun e W' => e = .returned (.bool true) ∧ Below W.heap.size W W' := by
  obtain ⟨xa, a1, a2, a3, a4⟩ := hA.src
  obtain ⟨xb, b1, b2, b3, b4⟩ := hB.src
  obtain ⟨xc, c1, c2, c3, c4⟩ := hC.src
  by_cases h : min (min la lb) lc ≤ 300
  · exact crli_in A B C la ca lb cb lc cc _ xa xb xc W rfl h a2 b2 c2 a1 b1 c1 a3 b3 c3 a4 b4 c4
  · exact crli_long A B C la ca lb cb lc cc _ W rfl (by omega) (by omega) (by omega) (by omega)
end Go.Proofs.Ytfacjpdceennhaa
