/-
  The document's own answers for proofs that a tree goes on (assayerref04): the two roots that a proof makes. WRITTEN BY wip/gen/mkrgb.py.
-/
import Derived.Test.YtfokemminjikpaaDoorRgA
import Derived.Test.YtfokemminjikpaaDoorChD
namespace Go.Proofs.YtfokemminjikpaaDoor
open Go.RowKit Go.BigFrame
set_option linter.unusedVariables false

theorem results_cell_cell_tmp {P : Program} {fn : Func} {p q u : Tmp} {ty ty2 : TypeId} (h : fn.results = #[.cell p ty, .cell q ty2, .tmp u]) (tmps : Array Value) (w : World) (g : Nat) (t : TypeId) (cs : Array Value) (fr : Nat × Nat) (d : TypeDesc) (g2 : Nat) (t2 : TypeId) (cs2 : Array Value) (fr2 : Nat × Nat) (d2 : TypeDesc)
    (hp : tmps.getD p undef = .pointer (some ⟨g, 0, none⟩)) (hg : w.heap[g]? = some (.cells cs t fr))
    (hu : P.underlying ty = some d) (hd : (match d with | .struct _ | .array _ _ => true | _ => false) = true) (hi : (P.info? ty).map (·.size) = some cs.size)
    (hq : tmps.getD q undef = .pointer (some ⟨g2, 0, none⟩)) (hg2 : w.heap[g2]? = some (.cells cs2 t2 fr2))
    (hu2 : P.underlying ty2 = some d2) (hd2 : (match d2 with | .struct _ | .array _ _ => true | _ => false) = true) (hi2 : (P.info? ty2).map (·.size) = some cs2.size) :
    (results fn tmps).run P w = .ok (.tuple #[.agg cs, .agg cs2, tmps.getD u undef]) w := by
  have hp' : tmps[p]?.getD undef = .pointer (some ⟨g, 0, none⟩) := by simpa using hp
  have hq' : tmps[q]?.getD undef = .pointer (some ⟨g2, 0, none⟩) := by simpa using hq
  simp [results, h, hp', hq', asAddr, run_loadVar_row w g t ty cs fr d hg hu hd hi, run_loadVar_row w g2 t2 ty2 cs2 fr2 d2 hg2 hu2 hd2 hi2]
theorem row_range {w : World} {g : Nat} {t : TypeId} {fr : Nat × Nat} {cs : List Value} (h : w.heap[g]? = some (.cells cs.toArray t fr)) : w.rangeAt g 0 cs := fun j v hv => by
  rw [Nat.zero_add, cell_of_row w g j cs.toArray t fr h]
  simpa using hv
theorem PathAt.drop1 {w : World} {b o : Nat} {p : List UInt8} {ps : List (List UInt8)} (h : PathAt w (some ⟨b, o, none⟩) (p :: ps)) : PathAt w (some ⟨b, o + 32, none⟩) ps := by
  refine ⟨fun q hq => h.all q (List.mem_cons_of_mem _ hq), fun i q hq => ?_⟩
  obtain ⟨b', o', e, hr⟩ := h.lie (i + 1) q (by simpa using hq)
  injection e with e
  injection e with e1 e2
  subst e1
  subst e2
  exact ⟨b, o + 32, rfl, by rw [show o + 32 + i * 32 = o + (i + 1) * 32 by omega]; exact hr⟩
theorem two_rows' {V : World} {g1 g2 : Nat} {Z1 Z2 R1 R2 : Array Value} {t t2 : TypeId} (hne : g1 ≠ g2) (h1 : V.heap[g1]? = some (.cells Z1 t (0, 0))) (h2 : V.heap[g2]? = some (.cells Z2 t2 (0, 0))) :
    (V.setRow g1 R1).heap[g2]? = some (.cells Z2 t2 (0, 0)) ∧ (V.setRow g1 R1).heap[g1]? = some (.cells R1 t (0, 0)) ∧ ((V.setRow g1 R1).setRow g2 R2).heap[g1]? = some (.cells R1 t (0, 0)) ∧ ((V.setRow g1 R1).setRow g2 R2).heap[g2]? = some (.cells R2 t2 (0, 0)) := by
  have a : (V.setRow g1 R1).heap[g2]? = some (.cells Z2 t2 (0, 0)) := (setRow_other V g1 g2 R1 (fun e => hne e.symm)).trans h2
  have b : (V.setRow g1 R1).heap[g1]? = some (.cells R1 t (0, 0)) := setRow_heap _ _ _ _ _ _ h1
  exact ⟨a, b, (setRow_other _ g2 g1 R2 hne).trans b, setRow_heap _ _ _ _ _ _ a⟩
/-- What Made answers. -/
def rcm (m n : Nat) (o : List UInt8) (ps : List (List UInt8)) : List UInt8 × List UInt8 := if ps.length = Tr.lng m n true then Tr.cmd m n true o ps else (List.replicate 32 0, List.replicate 32 0)
set_option maxRecDepth 100000 in
set_option maxHeartbeats 8000000 in
theorem rcm_any (o : List UInt8) (ho : o.length = 32) (m n : Nat) (A : Option Addr) (c : Nat) (ps : List (List UInt8)) (w : World) (hm1 : 1 ≤ m) (hmn : m ≤ n) (hn : n ≤ 18446744073709551615) (hP : PathAt w A ps) (hlp : ps.length ≤ 100) (hlc : ps.length ≤ c) :
    Calls Tryd.prog 43 #[.int .u64 (m : Int), .int .u64 (n : Int), .agg (bvs o).toArray, .slice A ps.length c] w fun e w' => e = .returned (.tuple #[.agg (bvs (rcm m n o ps).1).toArray, .agg (bvs (rcm m n o ps).2).toArray, .bool (decide (ps.length = Tr.lng m n true))]) ∧ Keeps (fun _ => False) w w' := by
  obtain ⟨Z, hZ, hz, hzs⟩ := zero_hash
  obtain ⟨ox, oz, oo⟩ := arr_hash o ho
  obtain ⟨XO, hXO⟩ : ∃ X, bvs o = X := ⟨_, rfl⟩
  rw [hXO] at ox oz oo ⊢
  obtain ⟨W1, hW1⟩ : ∃ W, w.alloc (.cells XO.toArray 24) = W := ⟨_, rfl⟩
  obtain ⟨W2, hW2⟩ : ∃ W, W1.alloc (.cells Z 24) = W := ⟨_, rfl⟩
  obtain ⟨W3, hW3⟩ : ∃ W, W2.alloc (.cells Z 24) = W := ⟨_, rfl⟩
  have k1 : Keeps (fun _ => False) w W1 := by rw [← hW1]; exact (Keeps.refl _ _).alloc _
  have k2 : Keeps (fun _ => False) W1 W2 := by rw [← hW2]; exact (Keeps.refl _ _).alloc _
  have k3 : Keeps (fun _ => False) W2 W3 := by rw [← hW3]; exact (Keeps.refl _ _).alloc _
  have q1 : w.heap.size < W1.heap.size := by rw [← hW1]; simp
  have q2 : W1.heap.size < W2.heap.size := by rw [← hW2]; simp
  have q3 : W2.heap.size < W3.heap.size := by rw [← hW3]; simp
  have r6 : W3.heap[w.heap.size]? = some (.cells XO.toArray 24 (0, 0)) := (k3.block _ (by omega) id).trans ((k2.block _ q1 id).trans (by rw [← hW1]; exact heap_alloc_new w _))
  have r8 : W3.heap[W1.heap.size]? = some (.cells Z 24 (0, 0)) := (k3.block _ q2 id).trans (by rw [← hW2]; exact heap_alloc_new W1 _)
  have r9 : W3.heap[W2.heap.size]? = some (.cells Z 24 (0, 0)) := by rw [← hW3]; exact heap_alloc_new W2 _
  have k0 := (k1.trans k2).trans k3
  obtain ⟨b6, hb6⟩ : ∃ b, w.heap.size = b := ⟨_, rfl⟩
  obtain ⟨b8, hb8⟩ : ∃ b, W1.heap.size = b := ⟨_, rfl⟩
  obtain ⟨b9, hb9⟩ : ∃ b, W2.heap.size = b := ⟨_, rfl⟩
  rw [hb6] at r6
  rw [hb8] at r8
  rw [hb9] at r9
  have hB := (show b6 < b8 ∧ b8 < b9 ∧ b9 < W3.heap.size ∧ w.heap.size = b6 by omega)
  obtain ⟨hL64, hlg⟩ := Tr.stp_length 64 m n true (Tr.deep_le (by omega)) hm1 hmn (by omega)
  have hst := rsteps_any m n W3 hm1 hmn hn
  have hlo := fun V => rlong_in m n V hm1 hmn hn
  have hup := fun (hl : ps.length = Tr.lng m n true) => Tr.cmd_up 64 m n true o ps (Tr.deep_le (by omega)) hm1 hmn (by omega) hl
  obtain ⟨S, hS⟩ : ∃ S, Tr.lng m n true = S := ⟨_, rfl⟩
  obtain ⟨⟨ls, ww⟩, hLw⟩ : ∃ s, Tr.stp m n true = s := ⟨_, rfl⟩
  rw [hLw] at hst hup hL64 hlg
  rw [hS] at hlo hup hlg
  simp only at hst hup hL64 hlg
  obtain ⟨l, hl⟩ : ∃ l, ls.length = l := ⟨_, rfl⟩
  rw [hl] at hst hL64 hlg
  have hrm : rcm m n o ps = if ps.length = S then ((Tr.rest ps ww).zip ls.reverse).foldl Tr.upp (Tr.begun o ps ww, Tr.begun o ps ww) else (List.replicate 32 0, List.replicate 32 0) := by
    unfold rcm
    rw [hS]
    split
    · rename_i e
      exact hup e
    · rfl
  rw [hrm, hS]
  obtain ⟨P, hPl⟩ : ∃ P, ps.length = P := ⟨_, rfl⟩
  rw [hPl] at hlp hlc ⊢
  obtain ⟨RA, hRA⟩ : ∃ R, (bvs (if P = S then ((Tr.rest ps ww).zip ls.reverse).foldl Tr.upp (Tr.begun o ps ww, Tr.begun o ps ww) else (List.replicate 32 0, List.replicate 32 0)).1).toArray = R := ⟨_, rfl⟩
  obtain ⟨RB, hRB⟩ : ∃ R, (bvs (if P = S then ((Tr.rest ps ww).zip ls.reverse).foldl Tr.upp (Tr.begun o ps ww, Tr.begun o ps ww) else (List.replicate 32 0, List.replicate 32 0)).2).toArray = R := ⟨_, rfl⟩
  obtain ⟨qb, hqb⟩ : ∃ q, decide (P = S) = q := ⟨_, rfl⟩
  rw [hRA, hRB, hqb]
  have HRA := Lib.hid hRA
  have HRB := Lib.hid hRB
  have HQB := Lib.hid hqb
  have HST := Lib.hid hst
  have HLO := Lib.hid hlo
  have HLN := Lib.hid hl
  have HLG := Lib.hid hlg
  have HPP := Lib.hid hP
  have HPL := Lib.hid hPl
  have R6 := Lib.hid r6
  have R8 := Lib.hid r8
  have R9 := Lib.hid r9
  have K0 := Lib.hid k0
  have HZ := Lib.hid hZ
  have HO32 := Lib.hid ho
  have HXO := Lib.hid hXO
  have SX := Lib.hid ox
  have ZX := Lib.hid (hzs.trans oz.symm)
  have ZXX := Lib.hid oz
  have OX := Lib.hid oo
  have HB := Lib.hid hB
  clear hRA hRB hqb hst hlo hl hlg hP hPl r6 r8 r9 k0 k1 k2 k3 hZ ho hXO ox oz oo hB q1 q2 q3 hup hrm hLw hS hm1 hmn hn
  go_enter Tryd.func43, Tryd.ntmps43
  go_wp2_with fail
  refine HST.out.mono ?_
  rintro e4 w4 ⟨A1, c1, rfl, ho4, k4⟩
  have K4 := Lib.hid k4
  clear HST k4
  go_wp2_with fail
  refine (HLO.out w4).mono ?_
  rintro e5 w5 ⟨rfl, k5⟩
  have K5 := Lib.hid ((K0.out.trans K4.out).trans k5)
  have k35 := K4.out.trans k5
  have O5 := Lib.hid (k5.owns ho4 (fun _ _ => id))
  have R65 := Lib.hid ((k35.block _ (Array.getElem?_eq_some_iff.1 R6.out).1 id).trans R6.out)
  have R85 := Lib.hid ((k35.block _ (Array.getElem?_eq_some_iff.1 R8.out).1 id).trans R8.out)
  have R95 := Lib.hid ((k35.block _ (Array.getElem?_eq_some_iff.1 R9.out).1 id).trans R9.out)
  have s35 := k35.size
  have HS35 := Lib.hid s35
  clear HLO k5 k35 ho4 R6 R8 R9 K4 s35
  by_cases hPS : P = S
  · subst hPS
    have hne : ((P : Int) != (P : Int)) = false := by simp
    have hq1 := HQB.out
    rw [decide_eq_true rfl] at hq1
    subst hq1
    have hra := HRA.out
    have hrb := HRB.out
    rw [if_pos rfl] at hra hrb
    obtain ⟨V5, hV5⟩ : ∃ V, w5.alloc (.cells Z 24) = V := ⟨_, rfl⟩
    have kv5 : Keeps (fun _ => False) w5 V5 := by rw [← hV5]; exact (Keeps.refl _ _).alloc _
    obtain ⟨b13, hb13⟩ : ∃ b, w5.heap.size = b := ⟨_, rfl⟩
    have z13 : V5.heap[b13]? = some (.cells Z 24 (0, 0)) := by rw [← hV5, ← hb13]; exact heap_alloc_new w5 _
    have r13 : (V5.setRow b13 XO.toArray).heap[b13]? = some (.cells XO.toArray 24 (0, 0)) := setRow_heap _ _ _ _ _ _ z13
    have kv6 : Keeps (fun _ => False) w5 (V5.setRow b13 XO.toArray) := kv5.trans' (Keeps.setRow _ _) (fun k hk e => by omega)
    have hsz5 : V5.heap.size = b13 + 1 := by rw [← hV5, ← hb13]; simp
    have Z13 := Lib.hid z13
    have R13 := Lib.hid r13
    have KV6 := Lib.hid kv6
    have R65' := R65.out
    clear z13 r13 kv6 kv5
    cases ww with
    | true =>
      have hlS : l = P := by have := HLG.out; simpa using this.symm
      subst hlS
      have hrs : Tr.rest ps true = ps := rfl
      have hbg : Tr.begun o ps true = o := rfl
      rw [hrs, hbg, ← Tr.uppTo_all o ps ls (HPL.out.trans HLN.out.symm), HPL.out] at hra hrb
      obtain ⟨a0, ha0⟩ : ∃ a, o = a := ⟨_, rfl⟩
      obtain ⟨qs, hqs⟩ : ∃ q, ps = q := ⟨_, rfl⟩
      have HA0 : Hid (a0.length = 32) := by rw [← ha0]; exact HO32
      have HQ : Hid (PathAt w A qs) := by rw [← hqs]; exact HPP
      have HQL : Hid (qs.length = l) := by rw [← hqs]; exact HPL
      have KX := KV6
      obtain ⟨V7, hV7⟩ : ∃ V, (V5.setRow b13 XO.toArray).alloc (.cells Z 24) = V := ⟨_, rfl⟩
      have kv7 : Keeps (fun _ => False) (V5.setRow b13 XO.toArray) V7 := by rw [← hV7]; exact (Keeps.refl _ _).alloc _
      obtain ⟨b14, hb14⟩ : ∃ b, (V5.setRow b13 XO.toArray).heap.size = b := ⟨_, rfl⟩
      have z14 : V7.heap[b14]? = some (.cells Z 24 (0, 0)) := by rw [← hV7, ← hb14]; exact heap_alloc_new _ _
      have lt14 : b13 < b14 := by rw [← hb14]; simp; omega
      have r13b : V7.heap[b13]? = some (.cells XO.toArray 24 (0, 0)) := (kv7.block _ (by rw [hb14]; exact lt14) id).trans R13.out
      have hh := two_rows' (R1 := XO.toArray) (R2 := XO.toArray) (show b14 ≠ b13 by omega) z14 r13b
      have Z14 := Lib.hid z14
      have KV7 := Lib.hid (kv7.trans' (Keeps.setRow b14 XO.toArray) (fun k hk e => by omega))
      obtain ⟨V9, hV9⟩ : ∃ V, V7.setRow b14 XO.toArray = V := ⟨_, rfl⟩
      have HV9 := Lib.hid hV9
      have s13 : V9.heap[b13]? = some (.cells XO.toArray 24 (0, 0)) := by rw [← hV9]; exact hh.1
      have s14 : V9.heap[b14]? = some (.cells XO.toArray 24 (0, 0)) := by rw [← hV9]; exact hh.2.1
      have k59 : Keeps (fun _ => False) w5 V9 := by rw [← hV9]; exact KX.out.trans KV7.out
      have R8V := Lib.hid ((k59.block _ (Array.getElem?_eq_some_iff.1 R85.out).1 id).trans R85.out)
      have R9V := Lib.hid ((k59.block _ (Array.getElem?_eq_some_iff.1 R95.out).1 id).trans R95.out)
      have HO := Lib.hid (k59.owns O5.out (fun _ _ => id))
      have KV9 : Hid (Keeps (fun k => b6 ≤ k) w V9) := Lib.hid ((K5.out.trans k59).mono (fun _ _ h => h.elim))
      have HBN := Lib.hid (show b6 < b8 ∧ b8 < b9 ∧ b9 < b13 ∧ b13 < b14 ∧ w.heap.size = b6 by have h1 := HB.out; have h2 := HS35.out; omega)
      have S13 : Hid (V9.heap[b13]? = some (.cells (bvs a0).toArray 24 (0, 0))) := Lib.hid (by rw [← ha0, HXO.out]; exact s13)
      have S14 : Hid (V9.heap[b14]? = some (.cells (bvs a0).toArray 24 (0, 0))) := Lib.hid (by rw [← ha0, HXO.out]; exact s14)
      have H13L := R13
      rw [ha0, hqs] at hra hrb
      have HRES : Hid (((bvs (Tr.uppTo a0 qs ls l).1).toArray, (bvs (Tr.uppTo a0 qs ls l).2).toArray) = (RA, RB)) := Lib.hid (by rw [hra, hrb])
      clear hra hrb hrs hbg s13 s14 k59 hh z14 r13b lt14 kv7 ha0 hqs R65'
      go_wp2_with (first
        | (refine wpList_load_row rfl 24 (.tmp 6) rfl b6 rfl 24 XO.toArray (0, 0) _ R65.out Tryd.underlying24 rfl SX.out ?_)
        | (refine wpList_store_row rfl 24 _ _ rfl b13 XO.toArray rfl rfl 24 Z Z13.out SX.out ZX.out OX.out ?_)
        | (refine wpList_load_row rfl 24 (.tmp 13) rfl b13 rfl 24 XO.toArray (0, 0) _ R13.out Tryd.underlying24 rfl SX.out ?_)
        | (refine wpList_store_row rfl 24 _ _ rfl b14 XO.toArray rfl rfl 24 Z Z14.out SX.out ZX.out OX.out ?_))
      try rw [hV9]
      clear hV9 hV7 hV5 Z13 Z14 R13 H13L KX KV6 KV7 HV9 R65 R85 R95 O5 K5
      go_loopw [15] (fun tv wr => ∃ t : Nat, t ≤ l ∧ tv = .int .i64 (t : Int) ∧ Hid (wr.heap[b13]? = some (.cells (bvs (Tr.uppTo a0 qs ls t).1).toArray 24 (0, 0))) ∧ Hid (wr.heap[b14]? = some (.cells (bvs (Tr.uppTo a0 qs ls t).2).toArray 24 (0, 0))) ∧ Hid (Keeps (fun k => k = b13 ∨ k = b14) V9 wr)) (fun tv _ => l - (intOf tv).toNat)
      case atStart => exact ⟨0, by omega, rfl, by rw [Tr.uppTo_zero]; exact S13, by rw [Tr.uppTo_zero]; exact S14, Lib.hid (Keeps.refl _ _)⟩
      case round =>
        obtain ⟨t, ht, rfl, H13, H14, HK2⟩ := hrel
        by_cases htl : t < l
        · obtain ⟨p, hp⟩ : ∃ p, qs[t]? = some p := ⟨_, List.getElem?_eq_getElem (by rw [HQL.out]; exact htl)⟩
          have hp32 : p.length = 32 := HQ.out.all p (List.mem_of_getElem? hp)
          obtain ⟨pb, po, e1, hr1⟩ := HQ.out.lie t p hp
          subst e1
          obtain ⟨b, hb⟩ : ∃ b, ls[l - 1 - t]? = some b := ⟨_, List.getElem?_eq_getElem (by rw [HLN.out]; omega)⟩
          have hstep := Tr.uppTo_succ a0 qs ls t p b hp (by rw [HLN.out]; exact hb) (by rw [HLN.out]; exact htl)
          have hlu := Tr.uppTo_length a0 qs ls t HA0.out
          have hlv := Tr.uppTo_length a0 qs ls (t + 1) HA0.out
          obtain ⟨gl, cl, hA1, hcl⟩ : ∃ gl cl, A1 = some ⟨gl, 0, none⟩ ∧ V9.cell? ⟨gl, l - 1 - t, none⟩ = some (.bool b) ∧ gl ≠ b13 ∧ gl ≠ b14 := by
            rcases HO.out.2 with ⟨h1, h2⟩ | ⟨g, cap, cur, h1, h2, h4, _⟩
            · omega
            · injection h1 with h1
              subst h1
              have h3 := HO.out.cells (g := g) rfl (l - 1 - t) (.bool b) (by rw [List.getElem?_map, hb]; rfl)
              rw [add_plain, Nat.zero_add] at h3
              refine ⟨g, cap, rfl, h3, ?_, ?_⟩
              · rintro rfl
                have := S13.out
                rw [this] at h4
                injection h4 with h4
                injection h4 with _ h4 _
                exact absurd h4 (by decide)
              · rintro rfl
                have := S14.out
                rw [this] at h4
                injection h4 with h4
                injection h4 with _ h4 _
                exact absurd h4 (by decide)
          subst hA1
          obtain ⟨q, hq⟩ : ∃ q : Nat, l - 1 - t = q := ⟨_, rfl⟩
          have hqi : (l : Int) - 1 - (t : Int) = (q : Int) := by omega
          have hq0 : (q : Int) < l := by omega
          rw [hq] at hcl
          have hcell : wr.cell? ⟨gl, q, none⟩ = some (.bool b) := (HK2.out.cell (World.block_lt_of_cell? V9 _ hcl.1) (by show ¬ (gl = b13 ∨ gl = b14); omega)).trans hcl.1
          have kww : ∀ V, Later wr V → Keeps (fun k => b6 ≤ k) w V := fun V hV => (KV9.out.trans' HK2.out (fun k hk h => by have := HBN.out; omega)).trans (hV.out.mono (fun _ _ h => h.elim))
          have gpw : ∀ V, Keeps (fun k => b6 ≤ k) w V → V.rangeAt pb (po + t * 32) (bvs p) := fun V hV => range_keeps hr1 hV (fun k hk h => by have := HBN.out; omega)
          have hnode : ∀ x y : List UInt8, x.length = 32 → y.length = 32 → ∀ V, Calls Tryd.prog 19 #[.agg (bvs x).toArray, .agg (bvs y).toArray] V fun e w' => e = .returned (.agg (bvs (Tr.node x y)).toArray) ∧ Keeps (fun _ => False) V w' := fun x y hx hy V => rnode_any x y V hx hy
          have n1 := hnode _ _ hlu.2 hp32
          have n2 := hnode _ _ hp32 hlu.1
          have n3 := hnode _ _ hp32 hlu.2
          have hpi : (Tryd.prog.info? 24).map (·.size) = some (bvs p).length := by rw [bvs_length, hp32]; exact size_hash'
          obtain ⟨sa, za, oa⟩ := arr_hash (Tr.uppTo a0 qs ls t).1 hlu.1
          obtain ⟨sb, zb, ob⟩ := arr_hash (Tr.uppTo a0 qs ls t).2 hlu.2
          obtain ⟨sna, zna, ona⟩ := arr_hash (Tr.uppTo a0 qs ls (t + 1)).1 hlv.1
          obtain ⟨snb, znb, onb⟩ := arr_hash (Tr.uppTo a0 qs ls (t + 1)).2 hlv.2
          have h13 := H13.out
          have h14 := H14.out
          have hPt : (t : Int) < l := by omega
          cases b with
          | true =>
            have hs1 : (Tr.uppTo a0 qs ls (t + 1)).1 = (Tr.uppTo a0 qs ls t).1 := by rw [hstep]; rfl
            have hs2 : Tr.node (Tr.uppTo a0 qs ls t).2 p = (Tr.uppTo a0 qs ls (t + 1)).2 := by rw [hstep]; rfl
            rw [hs2] at n1
            obtain ⟨O, hO⟩ : ∃ O, bvs p = O := ⟨_, rfl⟩
            obtain ⟨UA, hUA⟩ : ∃ O, bvs (Tr.uppTo a0 qs ls t).1 = O := ⟨_, rfl⟩
            obtain ⟨UB, hUB⟩ : ∃ O, bvs (Tr.uppTo a0 qs ls t).2 = O := ⟨_, rfl⟩
            obtain ⟨NB, hNB⟩ : ∃ O, bvs (Tr.uppTo a0 qs ls (t + 1)).2 = O := ⟨_, rfl⟩
            rw [hUA] at h13
            rw [hUB] at h14 sb zb
            rw [hNB] at snb znb onb
            rw [hUB, hO, hNB] at n1
            rw [hO] at hpi gpw
            have G13 : Hid (∀ V, Later wr V → V.heap[b13]? = some (.cells UA.toArray 24 (0, 0))) := fun V hV => (hV.out.block _ (Array.getElem?_eq_some_iff.1 h13).1 id).trans h13
            have G14 : Hid (∀ V, Later wr V → V.heap[b14]? = some (.cells UB.toArray 24 (0, 0))) := fun V hV => (hV.out.block _ (Array.getElem?_eq_some_iff.1 h14).1 id).trans h14
            have GP : Hid (∀ V, Later wr V → V.rangeAt pb (po + t * 32) O) := fun V hV => gpw V (kww V hV)
            have CN : Hid (∀ V, Later wr V → Calls Tryd.prog 19 #[.agg UB.toArray, .agg O.toArray] V fun e w' => e = .returned (.agg NB.toArray) ∧ Later wr w') := fun V hV => (n1 V).mono fun e w' hh => ⟨hh.1, ⟨hV.out.trans hh.2⟩⟩
            have SB := Lib.hid sb
            have SNB := Lib.hid snb
            have ONB := Lib.hid onb
            have ZBB := Lib.hid (zb.trans znb.symm)
            have HPI := Lib.hid hpi
            have HUA := Lib.hid hUA
            have HNB := Lib.hid hNB
            have HS1 := Lib.hid hs1
            clear n1 n2 n3 hnode gpw kww sa za oa sb zb ob sna zna ona snb znb onb hstep hlu hlv hs1 hs2 hUA hUB hNB hO hr1 hp32 hp hb hq hcl h13 h14 H13 H14 hpi ht
            go_wp2_with fail
            refine wp_region_phase 6 (Later wr) (by kernel_rfl) (by kernel_rfl) ⟨(Keeps.refl _ _).drew⟩ ?_
            simp only [List.take_succ_cons, List.take_zero, List.drop_succ_cons, List.drop_zero]
            refine class_load (by rfl) 24 (.tmp 14) (by rfl) b14 (by rfl) 24 UB.toArray (0, 0) _ G14.out Tryd.underlying24 rfl SB.out ?_
            simp only [Act.put, List.setIfInBounds_toArray, List.set_cons_zero, List.set_cons_succ]
            go_big_quiet_step ((intro _; rfl))
            go_big_quiet_step ((intro _; rfl))
            go_big_quiet_step ((intro _; rfl))
            refine class_mid (by rfl) 24 (.tmp 56) (by rfl) pb (po + t * 32) (by rfl) (O) _ GP.out Tryd.underlying24 rfl HPI.out ?_
            simp only [Act.put, List.setIfInBounds_toArray, List.set_cons_zero, List.set_cons_succ]
            go_big_quiet_want
            go_big_quiet_op
            refine ⟨(.agg NB.toArray), fun V hV => CN.out V hV, ?_⟩
            go_big_quiet_on
            refine wpQuiet_nil ?_
            intro w6 k6
            have H14 := Lib.hid (G14.out w6 k6)
            have H13 := Lib.hid (G13.out w6 k6)
            have KN := Lib.hid ((HK2.out.trans (k6.out.mono (fun _ _ h => h.elim))).trans' (Keeps.setRow b14 NB.toArray) (fun i hi e => .inr e))
            have HN14 := Lib.hid (setRow_heap _ _ _ _ _ _ H14.out : (w6.setRow b14 NB.toArray).heap[b14]? = some (.cells NB.toArray 24 (0, 0)))
            have HN13 := Lib.hid ((setRow_other w6 b14 b13 NB.toArray (by have := HBN.out; omega)).trans H13.out)
            go_wp2_with (refine wpList_store_row rfl 24 _ _ rfl b14 NB.toArray rfl rfl 24 UB.toArray H14.out SNB.out ZBB.out ONB.out ?_)
            go_roundw
            case rel => exact ⟨t + 1, by omega, by go_num, by rw [HS1.out, HUA.out]; exact HN13, by rw [HNB.out]; exact HN14, KN⟩
            case measure => simp [intOf]; omega
          | false =>
            have hs1 : Tr.node p (Tr.uppTo a0 qs ls t).1 = (Tr.uppTo a0 qs ls (t + 1)).1 := by rw [hstep]; rfl
            have hs2 : Tr.node p (Tr.uppTo a0 qs ls t).2 = (Tr.uppTo a0 qs ls (t + 1)).2 := by rw [hstep]; rfl
            rw [hs1] at n2
            rw [hs2] at n3
            obtain ⟨O, hO⟩ : ∃ O, bvs p = O := ⟨_, rfl⟩
            obtain ⟨UA, hUA⟩ : ∃ O, bvs (Tr.uppTo a0 qs ls t).1 = O := ⟨_, rfl⟩
            obtain ⟨UB, hUB⟩ : ∃ O, bvs (Tr.uppTo a0 qs ls t).2 = O := ⟨_, rfl⟩
            obtain ⟨NA, hNA⟩ : ∃ O, bvs (Tr.uppTo a0 qs ls (t + 1)).1 = O := ⟨_, rfl⟩
            obtain ⟨NB, hNB⟩ : ∃ O, bvs (Tr.uppTo a0 qs ls (t + 1)).2 = O := ⟨_, rfl⟩
            rw [hUA] at h13 sa za
            rw [hUB] at h14 sb zb
            rw [hNA] at sna zna ona
            rw [hNB] at snb znb onb
            rw [hUA, hO, hNA] at n2
            rw [hUB, hO, hNB] at n3
            rw [hO] at hpi gpw
            have G13 : Hid (∀ V, Later wr V → V.heap[b13]? = some (.cells UA.toArray 24 (0, 0))) := fun V hV => (hV.out.block _ (Array.getElem?_eq_some_iff.1 h13).1 id).trans h13
            have G14 : Hid (∀ V, Later wr V → V.heap[b14]? = some (.cells UB.toArray 24 (0, 0))) := fun V hV => (hV.out.block _ (Array.getElem?_eq_some_iff.1 h14).1 id).trans h14
            have GP : Hid (∀ V, Later wr V → V.rangeAt pb (po + t * 32) O) := fun V hV => gpw V (kww V hV)
            have GPW := Lib.hid gpw
            have CA : Hid (∀ V, Later wr V → Calls Tryd.prog 19 #[.agg O.toArray, .agg UA.toArray] V fun e w' => e = .returned (.agg NA.toArray) ∧ Later wr w') := fun V hV => (n2 V).mono fun e w' hh => ⟨hh.1, ⟨hV.out.trans hh.2⟩⟩
            have CNW := Lib.hid n3
            have SA := Lib.hid sa
            have SB := Lib.hid sb
            have SNA := Lib.hid sna
            have ONA := Lib.hid ona
            have SNB := Lib.hid snb
            have ONB := Lib.hid onb
            have ZAA := Lib.hid (za.trans zna.symm)
            have ZBB := Lib.hid (zb.trans znb.symm)
            have HPI := Lib.hid hpi
            have HNA := Lib.hid hNA
            have HNB := Lib.hid hNB
            clear n1 n2 n3 hnode gpw kww sa za oa sb zb ob sna zna ona snb znb onb hstep hlu hlv hs1 hs2 hUA hUB hNA hNB hO hr1 hp32 hp hb hq hcl h13 h14 H13 H14 hpi ht
            go_wp2_with fail
            refine wp_region_phase 6 (Later wr) (by kernel_rfl) (by kernel_rfl) ⟨(Keeps.refl _ _).drew⟩ ?_
            simp only [List.take_succ_cons, List.take_zero, List.drop_succ_cons, List.drop_zero]
            go_big_quiet_step ((intro _; rfl))
            go_big_quiet_step ((intro _; rfl))
            go_big_quiet_step ((intro _; rfl))
            refine class_mid (by rfl) 24 (.tmp 61) (by rfl) pb (po + t * 32) (by rfl) (O) _ GP.out Tryd.underlying24 rfl HPI.out ?_
            simp only [Act.put, List.setIfInBounds_toArray, List.set_cons_zero, List.set_cons_succ]
            refine class_load (by rfl) 24 (.tmp 13) (by rfl) b13 (by rfl) 24 UA.toArray (0, 0) _ G13.out Tryd.underlying24 rfl SA.out ?_
            simp only [Act.put, List.setIfInBounds_toArray, List.set_cons_zero, List.set_cons_succ]
            go_big_quiet_want
            go_big_quiet_op
            refine ⟨(.agg NA.toArray), fun V hV => CA.out V hV, ?_⟩
            go_big_quiet_on
            refine wpQuiet_nil ?_
            intro w6 k6
            have H13 := Lib.hid (G13.out w6 k6)
            have h14 := G14.out w6 k6
            have KN1 := Lib.hid ((HK2.out.trans (k6.out.mono (fun _ _ h => h.elim))).trans' (Keeps.setRow b13 NA.toArray) (fun i hi e => .inl e))
            have hn13 : (w6.setRow b13 NA.toArray).heap[b13]? = some (.cells NA.toArray 24 (0, 0)) := setRow_heap _ _ _ _ _ _ H13.out
            have hn14 := (setRow_other w6 b13 b14 NA.toArray (by have := HBN.out; omega)).trans h14
            obtain ⟨wq, hwq⟩ : ∃ V, w6.setRow b13 NA.toArray = V := ⟨_, rfl⟩
            have HWQ := Lib.hid hwq
            have N13 : Hid (wq.heap[b13]? = some (.cells NA.toArray 24 (0, 0))) := Lib.hid (by rw [← hwq]; exact hn13)
            have N14 : Hid (wq.heap[b14]? = some (.cells UB.toArray 24 (0, 0))) := Lib.hid (by rw [← hwq]; exact hn14)
            have KNQ : Hid (Keeps (fun k => k = b13 ∨ k = b14) V9 wq) := Lib.hid (by rw [← hwq]; exact KN1.out)
            have kq : ∀ V, Later wq V → Keeps (fun k => b6 ≤ k) w V := fun V hV => (KV9.out.trans' KNQ.out (fun k hk h => by have := HBN.out; omega)).trans (hV.out.mono (fun _ _ h => h.elim))
            have G13' : Hid (∀ V, Later wq V → V.heap[b13]? = some (.cells NA.toArray 24 (0, 0))) := fun V hV => (hV.out.block _ (Array.getElem?_eq_some_iff.1 N13.out).1 id).trans N13.out
            have G14' : Hid (∀ V, Later wq V → V.heap[b14]? = some (.cells UB.toArray 24 (0, 0))) := fun V hV => (hV.out.block _ (Array.getElem?_eq_some_iff.1 N14.out).1 id).trans N14.out
            have GP' : Hid (∀ V, Later wq V → V.rangeAt pb (po + t * 32) O) := fun V hV => GPW.out V (kq V hV)
            have CNQ : Hid (∀ V, Later wq V → Calls Tryd.prog 19 #[.agg O.toArray, .agg UB.toArray] V fun e w' => e = .returned (.agg NB.toArray) ∧ Later wq w') := fun V hV => (CNW.out V).mono fun e w' hh => ⟨hh.1, ⟨hV.out.trans hh.2⟩⟩
            clear hn13 hn14 h14 kq
            go_wp2_with (refine wpList_store_row rfl 24 _ _ rfl b13 NA.toArray rfl rfl 24 UA.toArray H13.out SNA.out ZAA.out ONA.out ?_)
            rw [hwq]
            clear hwq
            simp only [Act.put]
            refine wp_region_phase 6 (Later wq) (by kernel_rfl) (by kernel_rfl) ⟨(Keeps.refl _ _).drew⟩ ?_
            simp only [List.take_succ_cons, List.take_zero, List.drop_succ_cons, List.drop_zero]
            go_big_quiet_step ((intro _; rfl))
            go_big_quiet_step ((intro _; rfl))
            go_big_quiet_step ((intro _; rfl))
            refine class_mid (by rfl) 24 (.tmp 67) (by rfl) pb (po + t * 32) (by rfl) (O) _ GP'.out Tryd.underlying24 rfl HPI.out ?_
            simp only [Act.put, List.setIfInBounds_toArray, List.set_cons_zero, List.set_cons_succ]
            refine class_load (by rfl) 24 (.tmp 14) (by rfl) b14 (by rfl) 24 UB.toArray (0, 0) _ G14'.out Tryd.underlying24 rfl SB.out ?_
            simp only [Act.put, List.setIfInBounds_toArray, List.set_cons_zero, List.set_cons_succ]
            go_big_quiet_want
            go_big_quiet_op
            refine ⟨(.agg NB.toArray), fun V hV => CNQ.out V hV, ?_⟩
            go_big_quiet_on
            refine wpQuiet_nil ?_
            intro w7 k7
            have H14 := Lib.hid (G14'.out w7 k7)
            have HB13 := Lib.hid (G13'.out w7 k7)
            have KN := Lib.hid ((KNQ.out.trans (k7.out.mono (fun _ _ h => h.elim))).trans' (Keeps.setRow b14 NB.toArray) (fun i hi e => .inr e))
            have HN14 := Lib.hid (setRow_heap _ _ _ _ _ _ H14.out : (w7.setRow b14 NB.toArray).heap[b14]? = some (.cells NB.toArray 24 (0, 0)))
            have HN13 := Lib.hid ((setRow_other w7 b14 b13 NB.toArray (by have := HBN.out; omega)).trans HB13.out)
            go_wp2_with (refine wpList_store_row rfl 24 _ _ rfl b14 NB.toArray rfl rfl 24 UB.toArray H14.out SNB.out ZBB.out ONB.out ?_)
            go_roundw
            case rel => exact ⟨t + 1, by omega, by go_num, by rw [HNA.out]; exact HN13, by rw [HNB.out]; exact HN14, KN⟩
            case measure => simp [intOf]; omega
        · obtain rfl : t = l := by omega
          have hlu := Tr.uppTo_length a0 qs ls t HA0.out
          have r8r := (HK2.out.block b8 (Array.getElem?_eq_some_iff.1 R8V.out).1 (by have := HBN.out; omega)).trans R8V.out
          have r9r := (HK2.out.block b9 (Array.getElem?_eq_some_iff.1 R9V.out).1 (by have := HBN.out; omega)).trans R9V.out
          obtain ⟨sa, za, oa⟩ := arr_hash (Tr.uppTo a0 qs ls t).1 hlu.1
          obtain ⟨sb, zb, ob⟩ := arr_hash (Tr.uppTo a0 qs ls t).2 hlu.2
          have h13 := H13.out
          have h14 := H14.out
          have hres := HRES.out
          obtain ⟨UA, hUA⟩ : ∃ O, bvs (Tr.uppTo a0 qs ls t).1 = O := ⟨_, rfl⟩
          obtain ⟨UB, hUB⟩ : ∃ O, bvs (Tr.uppTo a0 qs ls t).2 = O := ⟨_, rfl⟩
          rw [hUA] at h13 sa za oa hres
          rw [hUB] at h14 sb zb ob hres
          have kwr : Keeps (fun _ => False) w wr := KV9.out.trans' HK2.out (fun k hk h => by have := HBN.out; omega) |>.mono (fun k hk h => by have := HBN.out; omega)
          have HBW : Hid ((fun V => (V.heap[b13]? = some (.cells UA.toArray 24 (0, 0)) ∧ V.heap[b14]? = some (.cells UB.toArray 24 (0, 0))) ∧ Later w V) { wr with drawn := wr.drawn + 1 }) := Lib.hid ⟨⟨h13, h14⟩, ⟨kwr.drew⟩⟩
          have HFW : Hid ((fun V => V.heap[b8]? = some (.cells Z 24 (0, 0)) ∧ V.heap[b9]? = some (.cells Z 24 (0, 0))) { wr with drawn := wr.drawn + 1 }) := Lib.hid ⟨r8r, r9r⟩
          have SLA := Lib.hid (show (Tryd.prog.info? 24).map (·.size) = some UA.length by rw [← hUA, bvs_length, hlu.1]; exact size_hash')
          have SLB := Lib.hid (show (Tryd.prog.info? 24).map (·.size) = some UB.length by rw [← hUB, bvs_length, hlu.2]; exact size_hash')
          have SA := Lib.hid sa
          have SB := Lib.hid sb
          have ZA := Lib.hid (hzs.trans za.symm)
          have ZB := Lib.hid (hzs.trans zb.symm)
          have OA := Lib.hid oa
          have OB := Lib.hid ob
          have HR2 := Lib.hid hres
          clear sa za oa sb zb ob h13 h14 hres hUA hUB hlu r8r r9r kwr H13 H14 HK2 ht htl
          go_wp2_with fail
          refine wp_region_stores 5 [2, 3] [0, 1, 2, 3, 4] (fun V => (V.heap[b13]? = some (.cells UA.toArray 24 (0, 0)) ∧ V.heap[b14]? = some (.cells UB.toArray 24 (0, 0))) ∧ Later w V) (fun V => V.heap[b8]? = some (.cells Z 24 (0, 0)) ∧ V.heap[b9]? = some (.cells Z 24 (0, 0))) (by kernel_rfl) (by kernel_rfl) (Lasts.and (Lasts.and (Lasts.block _ _) (Lasts.block _ _)) (Lasts.later w)) (Lasts.and (Lasts.block _ _) (Lasts.block _ _)) (HBW.out) (HFW.out) ?_
          refine T_load (get_op rfl) (by rfl) (by rfl) 24 (.tmp 13) (by rfl) b13 0 (by rfl) UA _ (fun V hV => row_range hV.1.1) Tryd.underlying24 rfl SLA.out ?_
          simp only [Act.put, List.setIfInBounds_toArray, List.set_cons_zero, List.set_cons_succ]
          refine T_load (get_op rfl) (by rfl) (by rfl) 24 (.tmp 14) (by rfl) b14 0 (by rfl) UB _ (fun V hV => row_range hV.1.2) Tryd.underlying24 rfl SLB.out ?_
          simp only [Act.put, List.setIfInBounds_toArray, List.set_cons_zero, List.set_cons_succ]
          refine T_store (get_op rfl) (by rfl) (by rfl) 24 (.tmp 8) (.tmp 71) (by rfl) (by rfl) b8 (by rfl) UA.toArray Z (by rfl) 24 SA.out ZA.out OA.out (fun V => V.heap[b8]? = some (.cells UA.toArray 24 (0, 0)) ∧ V.heap[b9]? = some (.cells Z 24 (0, 0))) (Lasts.and (Lasts.block _ _) (Lasts.block _ _)) (fun V hb hf => ⟨hf.1, ⟨⟨(setRow_other V b8 b13 _ (by have := HBN.out; omega)).trans hb.1.1, (setRow_other V b8 b14 _ (by have := HBN.out; omega)).trans hb.1.2⟩, ⟨hb.2.out.trans' (Keeps.setRow _ _) (fun i hi h => by have := HBN.out; omega)⟩⟩, setRow_heap _ _ _ _ _ _ hf.1, (setRow_other V b8 b9 _ (by have := HBN.out; omega)).trans hf.2⟩) ?_
          refine T_store (get_op rfl) (by rfl) (by rfl) 24 (.tmp 9) (.tmp 72) (by rfl) (by rfl) b9 (by rfl) UB.toArray Z (by rfl) 24 SB.out ZB.out OB.out (fun V => V.heap[b8]? = some (.cells UA.toArray 24 (0, 0)) ∧ V.heap[b9]? = some (.cells UB.toArray 24 (0, 0))) (Lasts.and (Lasts.block _ _) (Lasts.block _ _)) (fun V hb hf => ⟨hf.2, ⟨⟨(setRow_other V b9 b13 _ (by have := HBN.out; omega)).trans hb.1.1, (setRow_other V b9 b14 _ (by have := HBN.out; omega)).trans hb.1.2⟩, ⟨hb.2.out.trans' (Keeps.setRow _ _) (fun i hi h => by have := HBN.out; omega)⟩⟩, (setRow_other V b9 b8 _ (by have := HBN.out; omega)).trans hf.1, setRow_heap _ _ _ _ _ _ hf.2⟩) ?_
          refine T_quiet (get_op rfl) (by rfl) (by rfl) (by rfl) ?_
          intro K hK
          go_big_quiet_op
          first | go_big_quiet_on | go_big_quiet_call ((intro _; rfl))
          refine T_nil ?_
          intro w20 hb20 hf20
          simp only [List.drop_succ_cons, List.drop_zero]
          have HC := Lib.hid hf20.1
          have HD := Lib.hid hf20.2
          have KF := Lib.hid hb20.2.out
          clear hf20 hb20
          go_wp2
          refine bodyPost_ret (results_cell_cell_tmp rfl _ _ b8 24 UA.toArray (0, 0) _ b9 24 UB.toArray (0, 0) _ rfl HC.out Tryd.underlying24 rfl SA.out rfl HD.out Tryd.underlying24 rfl SB.out) rfl ?_
          exact ⟨congrArg (fun R : Array Value × Array Value => Ending.returned (Value.tuple #[.agg R.1, .agg R.2, .bool true])) HR2.out, KF.out⟩
    | false =>
      have hlS : l + 1 = P := by have := HLG.out; simpa using this.symm
      subst hlS
      obtain ⟨p0, qs, hpq⟩ : ∃ p q, ps = p :: q := by
        have := HPL.out
        match ps, this with
        | p :: q, _ => exact ⟨p, q, rfl⟩
      subst hpq
      have hrs : Tr.rest (p0 :: qs) false = qs := rfl
      have hbg : Tr.begun o (p0 :: qs) false = p0 := rfl
      have HQL : Hid (qs.length = l) := Lib.hid (by have := HPL.out; simpa using this)
      rw [hrs, hbg, ← Tr.uppTo_all p0 qs ls (HQL.out.trans HLN.out.symm), HQL.out] at hra hrb
      have HA0 : Hid (p0.length = 32) := Lib.hid (HPP.out.all p0 (by simp))
      obtain ⟨pb, po, e1, hr1⟩ := HPP.out.lie 0 p0 rfl
      subst e1
      rw [Nat.zero_mul, Nat.add_zero] at hr1
      obtain ⟨px, pz, poo⟩ := arr_hash p0 HA0.out
      have hpi : (Tryd.prog.info? 24).map (·.size) = some (bvs p0).length := by rw [bvs_length, HA0.out]; exact size_hash'
      obtain ⟨PC, hPC⟩ : ∃ O, bvs p0 = O := ⟨_, rfl⟩
      rw [hPC] at px pz poo hpi hr1
      have hhx := two_rows' (R1 := PC.toArray) (R2 := PC.toArray) (show b13 ≠ b6 by have h1 := HB.out; have h2 := HS35.out; omega) R13.out ((KV6.out.block _ (Array.getElem?_eq_some_iff.1 R65.out).1 id).trans R65.out)
      have R13' := Lib.hid hhx.2.1
      have KX : Hid (Keeps (fun _ => False) w5 ((V5.setRow b13 XO.toArray).setRow b13 PC.toArray)) := Lib.hid (KV6.out.trans' (Keeps.setRow b13 PC.toArray) (fun k hk e => by omega))
      have GR : Hid ((V5.setRow b13 XO.toArray).rangeAt pb po PC) := Lib.hid (range_keeps hr1 (K5.out.trans KV6.out) (fun _ _ => id))
      have HPI := Lib.hid hpi
      have SPX := Lib.hid px
      have ZPX := Lib.hid (ZXX.out.trans pz.symm)
      have ZPZ := Lib.hid (hzs.trans pz.symm)
      have OPX := Lib.hid poo
      obtain ⟨V7, hV7⟩ : ∃ V, ((V5.setRow b13 XO.toArray).setRow b13 PC.toArray).alloc (.cells Z 24) = V := ⟨_, rfl⟩
      have kv7 : Keeps (fun _ => False) ((V5.setRow b13 XO.toArray).setRow b13 PC.toArray) V7 := by rw [← hV7]; exact (Keeps.refl _ _).alloc _
      obtain ⟨b14, hb14⟩ : ∃ b, ((V5.setRow b13 XO.toArray).setRow b13 PC.toArray).heap.size = b := ⟨_, rfl⟩
      have z14 : V7.heap[b14]? = some (.cells Z 24 (0, 0)) := by rw [← hV7, ← hb14]; exact heap_alloc_new _ _
      have lt14 : b13 < b14 := by rw [← hb14]; simp; omega
      have r13b : V7.heap[b13]? = some (.cells PC.toArray 24 (0, 0)) := (kv7.block _ (by rw [hb14]; exact lt14) id).trans R13'.out
      have hh := two_rows' (R1 := PC.toArray) (R2 := PC.toArray) (show b14 ≠ b13 by omega) z14 r13b
      have Z14 := Lib.hid z14
      have KV7 := Lib.hid (kv7.trans' (Keeps.setRow b14 PC.toArray) (fun k hk e => by omega))
      obtain ⟨V9, hV9⟩ : ∃ V, V7.setRow b14 PC.toArray = V := ⟨_, rfl⟩
      have HV9 := Lib.hid hV9
      have s13 : V9.heap[b13]? = some (.cells PC.toArray 24 (0, 0)) := by rw [← hV9]; exact hh.1
      have s14 : V9.heap[b14]? = some (.cells PC.toArray 24 (0, 0)) := by rw [← hV9]; exact hh.2.1
      have k59 : Keeps (fun _ => False) w5 V9 := by rw [← hV9]; exact KX.out.trans KV7.out
      have R8V := Lib.hid ((k59.block _ (Array.getElem?_eq_some_iff.1 R85.out).1 id).trans R85.out)
      have R9V := Lib.hid ((k59.block _ (Array.getElem?_eq_some_iff.1 R95.out).1 id).trans R95.out)
      have HO := Lib.hid (k59.owns O5.out (fun _ _ => id))
      have KV9 : Hid (Keeps (fun k => b6 ≤ k) w V9) := Lib.hid ((K5.out.trans k59).mono (fun _ _ h => h.elim))
      have HBN := Lib.hid (show b6 < b8 ∧ b8 < b9 ∧ b9 < b13 ∧ b13 < b14 ∧ w.heap.size = b6 by have h1 := HB.out; have h2 := HS35.out; omega)
      have S13 : Hid (V9.heap[b13]? = some (.cells (bvs p0).toArray 24 (0, 0))) := Lib.hid (by rw [hPC]; exact s13)
      have S14 : Hid (V9.heap[b14]? = some (.cells (bvs p0).toArray 24 (0, 0))) := Lib.hid (by rw [hPC]; exact s14)
      have HRES : Hid (((bvs (Tr.uppTo p0 qs ls l).1).toArray, (bvs (Tr.uppTo p0 qs ls l).2).toArray) = (RA, RB)) := Lib.hid (by rw [hra, hrb])
      have HQ1 := Lib.hid HPP.out.drop1
      have hl100 : (l : Int) + 1 ≤ 100 := by omega
      have hlc1 : (l : Int) + 1 ≤ c := by omega
      have hl0 : (0 : Int) < (l : Int) + 1 := by omega
      have hc1 : (1 : Int) ≤ c := by omega
      clear hra hrb hrs hbg s13 s14 k59 hh hhx z14 r13b lt14 kv7 R65' px pz poo hpi hr1
      by_cases hcc : c = 1
      · have hl00 : l = 0 := by omega
        have HQ : Hid (PathAt w (some ⟨pb, po, none⟩) qs) := Lib.hid (by rw [List.eq_nil_of_length_eq_zero (HQL.out.trans hl00)]; exact PathAt.nil _ _)
        have HL00 := Lib.hid hl00
        clear hl00
        subst hcc
        go_wp2_with (first
          | (refine wpList_load_row rfl 24 (.tmp 6) rfl b6 rfl 24 XO.toArray (0, 0) _ R65.out Tryd.underlying24 rfl SX.out ?_)
          | (refine wpList_store_row rfl 24 _ _ rfl b13 XO.toArray rfl rfl 24 Z Z13.out SX.out ZX.out OX.out ?_)
          | (refine wpList_load_mid rfl 24 (.tmp 34) rfl pb po rfl PC _ GR.out Tryd.underlying24 rfl HPI.out ?_)
          | (refine wpList_store_row rfl 24 _ _ rfl b13 PC.toArray rfl rfl 24 XO.toArray R13.out SPX.out ZPX.out OPX.out ?_)
          | (refine wpList_load_row rfl 24 (.tmp 13) rfl b13 rfl 24 PC.toArray (0, 0) _ R13'.out Tryd.underlying24 rfl SPX.out ?_)
          | (refine wpList_store_row rfl 24 _ _ rfl b14 PC.toArray rfl rfl 24 Z Z14.out SPX.out ZPZ.out OPX.out ?_))
        try rw [hV9]
        obtain ⟨a0, ha0⟩ : ∃ a, p0 = a := ⟨_, rfl⟩
        rw [ha0] at HA0 S13 S14 HRES
        clear hV9 hV7 hV5 Z13 Z14 R13 R13' KX KV6 KV7 HV9 R65 R85 R95 O5 K5 GR HPI SPX ZPX ZPZ OPX HPP ha0
        go_loopw [15] (fun tv wr => ∃ t : Nat, t ≤ l ∧ tv = .int .i64 (t : Int) ∧ Hid (wr.heap[b13]? = some (.cells (bvs (Tr.uppTo a0 qs ls t).1).toArray 24 (0, 0))) ∧ Hid (wr.heap[b14]? = some (.cells (bvs (Tr.uppTo a0 qs ls t).2).toArray 24 (0, 0))) ∧ Hid (Keeps (fun k => k = b13 ∨ k = b14) V9 wr)) (fun tv _ => l - (intOf tv).toNat)
        case atStart => exact ⟨0, by omega, rfl, by rw [Tr.uppTo_zero]; exact S13, by rw [Tr.uppTo_zero]; exact S14, Lib.hid (Keeps.refl _ _)⟩
        case round =>
          obtain ⟨t, ht, rfl, H13, H14, HK2⟩ := hrel
          by_cases htl : t < l
          · exact absurd htl (by have := HL00.out; omega)
          · obtain rfl : t = l := by omega
            have hlu := Tr.uppTo_length a0 qs ls t HA0.out
            have r8r := (HK2.out.block b8 (Array.getElem?_eq_some_iff.1 R8V.out).1 (by have := HBN.out; omega)).trans R8V.out
            have r9r := (HK2.out.block b9 (Array.getElem?_eq_some_iff.1 R9V.out).1 (by have := HBN.out; omega)).trans R9V.out
            obtain ⟨sa, za, oa⟩ := arr_hash (Tr.uppTo a0 qs ls t).1 hlu.1
            obtain ⟨sb, zb, ob⟩ := arr_hash (Tr.uppTo a0 qs ls t).2 hlu.2
            have h13 := H13.out
            have h14 := H14.out
            have hres := HRES.out
            obtain ⟨UA, hUA⟩ : ∃ O, bvs (Tr.uppTo a0 qs ls t).1 = O := ⟨_, rfl⟩
            obtain ⟨UB, hUB⟩ : ∃ O, bvs (Tr.uppTo a0 qs ls t).2 = O := ⟨_, rfl⟩
            rw [hUA] at h13 sa za oa hres
            rw [hUB] at h14 sb zb ob hres
            have kwr : Keeps (fun _ => False) w wr := KV9.out.trans' HK2.out (fun k hk h => by have := HBN.out; omega) |>.mono (fun k hk h => by have := HBN.out; omega)
            have HBW : Hid ((fun V => (V.heap[b13]? = some (.cells UA.toArray 24 (0, 0)) ∧ V.heap[b14]? = some (.cells UB.toArray 24 (0, 0))) ∧ Later w V) { wr with drawn := wr.drawn + 1 }) := Lib.hid ⟨⟨h13, h14⟩, ⟨kwr.drew⟩⟩
            have HFW : Hid ((fun V => V.heap[b8]? = some (.cells Z 24 (0, 0)) ∧ V.heap[b9]? = some (.cells Z 24 (0, 0))) { wr with drawn := wr.drawn + 1 }) := Lib.hid ⟨r8r, r9r⟩
            have SLA := Lib.hid (show (Tryd.prog.info? 24).map (·.size) = some UA.length by rw [← hUA, bvs_length, hlu.1]; exact size_hash')
            have SLB := Lib.hid (show (Tryd.prog.info? 24).map (·.size) = some UB.length by rw [← hUB, bvs_length, hlu.2]; exact size_hash')
            have SA := Lib.hid sa
            have SB := Lib.hid sb
            have ZA := Lib.hid (hzs.trans za.symm)
            have ZB := Lib.hid (hzs.trans zb.symm)
            have OA := Lib.hid oa
            have OB := Lib.hid ob
            have HR2 := Lib.hid hres
            clear sa za oa sb zb ob h13 h14 hres hUA hUB hlu r8r r9r kwr H13 H14 HK2 ht htl
            go_wp2_with fail
            refine wp_region_stores 5 [2, 3] [0, 1, 2, 3, 4] (fun V => (V.heap[b13]? = some (.cells UA.toArray 24 (0, 0)) ∧ V.heap[b14]? = some (.cells UB.toArray 24 (0, 0))) ∧ Later w V) (fun V => V.heap[b8]? = some (.cells Z 24 (0, 0)) ∧ V.heap[b9]? = some (.cells Z 24 (0, 0))) (by kernel_rfl) (by kernel_rfl) (Lasts.and (Lasts.and (Lasts.block _ _) (Lasts.block _ _)) (Lasts.later w)) (Lasts.and (Lasts.block _ _) (Lasts.block _ _)) (HBW.out) (HFW.out) ?_
            refine T_load (get_op rfl) (by rfl) (by rfl) 24 (.tmp 13) (by rfl) b13 0 (by rfl) UA _ (fun V hV => row_range hV.1.1) Tryd.underlying24 rfl SLA.out ?_
            simp only [Act.put, List.setIfInBounds_toArray, List.set_cons_zero, List.set_cons_succ]
            refine T_load (get_op rfl) (by rfl) (by rfl) 24 (.tmp 14) (by rfl) b14 0 (by rfl) UB _ (fun V hV => row_range hV.1.2) Tryd.underlying24 rfl SLB.out ?_
            simp only [Act.put, List.setIfInBounds_toArray, List.set_cons_zero, List.set_cons_succ]
            refine T_store (get_op rfl) (by rfl) (by rfl) 24 (.tmp 8) (.tmp 71) (by rfl) (by rfl) b8 (by rfl) UA.toArray Z (by rfl) 24 SA.out ZA.out OA.out (fun V => V.heap[b8]? = some (.cells UA.toArray 24 (0, 0)) ∧ V.heap[b9]? = some (.cells Z 24 (0, 0))) (Lasts.and (Lasts.block _ _) (Lasts.block _ _)) (fun V hb hf => ⟨hf.1, ⟨⟨(setRow_other V b8 b13 _ (by have := HBN.out; omega)).trans hb.1.1, (setRow_other V b8 b14 _ (by have := HBN.out; omega)).trans hb.1.2⟩, ⟨hb.2.out.trans' (Keeps.setRow _ _) (fun i hi h => by have := HBN.out; omega)⟩⟩, setRow_heap _ _ _ _ _ _ hf.1, (setRow_other V b8 b9 _ (by have := HBN.out; omega)).trans hf.2⟩) ?_
            refine T_store (get_op rfl) (by rfl) (by rfl) 24 (.tmp 9) (.tmp 72) (by rfl) (by rfl) b9 (by rfl) UB.toArray Z (by rfl) 24 SB.out ZB.out OB.out (fun V => V.heap[b8]? = some (.cells UA.toArray 24 (0, 0)) ∧ V.heap[b9]? = some (.cells UB.toArray 24 (0, 0))) (Lasts.and (Lasts.block _ _) (Lasts.block _ _)) (fun V hb hf => ⟨hf.2, ⟨⟨(setRow_other V b9 b13 _ (by have := HBN.out; omega)).trans hb.1.1, (setRow_other V b9 b14 _ (by have := HBN.out; omega)).trans hb.1.2⟩, ⟨hb.2.out.trans' (Keeps.setRow _ _) (fun i hi h => by have := HBN.out; omega)⟩⟩, (setRow_other V b9 b8 _ (by have := HBN.out; omega)).trans hf.1, setRow_heap _ _ _ _ _ _ hf.2⟩) ?_
            refine T_quiet (get_op rfl) (by rfl) (by rfl) (by rfl) ?_
            intro K hK
            go_big_quiet_op
            first | go_big_quiet_on | go_big_quiet_call ((intro _; rfl))
            refine T_nil ?_
            intro w20 hb20 hf20
            simp only [List.drop_succ_cons, List.drop_zero]
            have HC := Lib.hid hf20.1
            have HD := Lib.hid hf20.2
            have KF := Lib.hid hb20.2.out
            clear hf20 hb20
            go_wp2
            refine bodyPost_ret (results_cell_cell_tmp rfl _ _ b8 24 UA.toArray (0, 0) _ b9 24 UB.toArray (0, 0) _ rfl HC.out Tryd.underlying24 rfl SA.out rfl HD.out Tryd.underlying24 rfl SB.out) rfl ?_
            exact ⟨congrArg (fun R : Array Value × Array Value => Ending.returned (Value.tuple #[.agg R.1, .agg R.2, .bool true])) HR2.out, KF.out⟩
      · have HQ : Hid (PathAt w (some ⟨pb, po + 32, none⟩) qs) := HQ1
        have hcc' : ¬ (c : Int) = 1 := by omega
        go_wp2_with (first
          | (refine wpList_load_row rfl 24 (.tmp 6) rfl b6 rfl 24 XO.toArray (0, 0) _ R65.out Tryd.underlying24 rfl SX.out ?_)
          | (refine wpList_store_row rfl 24 _ _ rfl b13 XO.toArray rfl rfl 24 Z Z13.out SX.out ZX.out OX.out ?_)
          | (refine wpList_load_mid rfl 24 (.tmp 34) rfl pb po rfl PC _ GR.out Tryd.underlying24 rfl HPI.out ?_)
          | (refine wpList_store_row rfl 24 _ _ rfl b13 PC.toArray rfl rfl 24 XO.toArray R13.out SPX.out ZPX.out OPX.out ?_)
          | (refine wpList_load_row rfl 24 (.tmp 13) rfl b13 rfl 24 PC.toArray (0, 0) _ R13'.out Tryd.underlying24 rfl SPX.out ?_)
          | (refine wpList_store_row rfl 24 _ _ rfl b14 PC.toArray rfl rfl 24 Z Z14.out SPX.out ZPZ.out OPX.out ?_))
        try rw [hV9]
        obtain ⟨a0, ha0⟩ : ∃ a, p0 = a := ⟨_, rfl⟩
        rw [ha0] at HA0 S13 S14 HRES
        clear hV9 hV7 hV5 Z13 Z14 R13 R13' KX KV6 KV7 HV9 R65 R85 R95 O5 K5 GR HPI SPX ZPX ZPZ OPX HPP ha0
        go_loopw [15] (fun tv wr => ∃ t : Nat, t ≤ l ∧ tv = .int .i64 (t : Int) ∧ Hid (wr.heap[b13]? = some (.cells (bvs (Tr.uppTo a0 qs ls t).1).toArray 24 (0, 0))) ∧ Hid (wr.heap[b14]? = some (.cells (bvs (Tr.uppTo a0 qs ls t).2).toArray 24 (0, 0))) ∧ Hid (Keeps (fun k => k = b13 ∨ k = b14) V9 wr)) (fun tv _ => l - (intOf tv).toNat)
        case atStart => exact ⟨0, by omega, rfl, by rw [Tr.uppTo_zero]; exact S13, by rw [Tr.uppTo_zero]; exact S14, Lib.hid (Keeps.refl _ _)⟩
        case round =>
          obtain ⟨t, ht, rfl, H13, H14, HK2⟩ := hrel
          by_cases htl : t < l
          · obtain ⟨p, hp⟩ : ∃ p, qs[t]? = some p := ⟨_, List.getElem?_eq_getElem (by rw [HQL.out]; exact htl)⟩
            have hp32 : p.length = 32 := HQ.out.all p (List.mem_of_getElem? hp)
            obtain ⟨pb2, po2, e1, hr1⟩ := HQ.out.lie t p hp
            injection e1 with e1
            injection e1 with e1 e2
            subst e1
            subst e2
            obtain ⟨b, hb⟩ : ∃ b, ls[l - 1 - t]? = some b := ⟨_, List.getElem?_eq_getElem (by rw [HLN.out]; omega)⟩
            have hstep := Tr.uppTo_succ a0 qs ls t p b hp (by rw [HLN.out]; exact hb) (by rw [HLN.out]; exact htl)
            have hlu := Tr.uppTo_length a0 qs ls t HA0.out
            have hlv := Tr.uppTo_length a0 qs ls (t + 1) HA0.out
            obtain ⟨gl, cl, hA1, hcl⟩ : ∃ gl cl, A1 = some ⟨gl, 0, none⟩ ∧ V9.cell? ⟨gl, l - 1 - t, none⟩ = some (.bool b) ∧ gl ≠ b13 ∧ gl ≠ b14 := by
              rcases HO.out.2 with ⟨h1, h2⟩ | ⟨g, cap, cur, h1, h2, h4, _⟩
              · omega
              · injection h1 with h1
                subst h1
                have h3 := HO.out.cells (g := g) rfl (l - 1 - t) (.bool b) (by rw [List.getElem?_map, hb]; rfl)
                rw [add_plain, Nat.zero_add] at h3
                refine ⟨g, cap, rfl, h3, ?_, ?_⟩
                · rintro rfl
                  have := S13.out
                  rw [this] at h4
                  injection h4 with h4
                  injection h4 with _ h4 _
                  exact absurd h4 (by decide)
                · rintro rfl
                  have := S14.out
                  rw [this] at h4
                  injection h4 with h4
                  injection h4 with _ h4 _
                  exact absurd h4 (by decide)
            subst hA1
            obtain ⟨q, hq⟩ : ∃ q : Nat, l - 1 - t = q := ⟨_, rfl⟩
            have hqi : (l : Int) - 1 - (t : Int) = (q : Int) := by omega
            have hq0 : (q : Int) < l := by omega
            rw [hq] at hcl
            have hcell : wr.cell? ⟨gl, q, none⟩ = some (.bool b) := (HK2.out.cell (World.block_lt_of_cell? V9 _ hcl.1) (by show ¬ (gl = b13 ∨ gl = b14); omega)).trans hcl.1
            have kww : ∀ V, Later wr V → Keeps (fun k => b6 ≤ k) w V := fun V hV => (KV9.out.trans' HK2.out (fun k hk h => by have := HBN.out; omega)).trans (hV.out.mono (fun _ _ h => h.elim))
            have gpw : ∀ V, Keeps (fun k => b6 ≤ k) w V → V.rangeAt pb ((po + 32) + t * 32) (bvs p) := fun V hV => range_keeps hr1 hV (fun k hk h => by have := HBN.out; omega)
            have hnode : ∀ x y : List UInt8, x.length = 32 → y.length = 32 → ∀ V, Calls Tryd.prog 19 #[.agg (bvs x).toArray, .agg (bvs y).toArray] V fun e w' => e = .returned (.agg (bvs (Tr.node x y)).toArray) ∧ Keeps (fun _ => False) V w' := fun x y hx hy V => rnode_any x y V hx hy
            have n1 := hnode _ _ hlu.2 hp32
            have n2 := hnode _ _ hp32 hlu.1
            have n3 := hnode _ _ hp32 hlu.2
            have hpi : (Tryd.prog.info? 24).map (·.size) = some (bvs p).length := by rw [bvs_length, hp32]; exact size_hash'
            obtain ⟨sa, za, oa⟩ := arr_hash (Tr.uppTo a0 qs ls t).1 hlu.1
            obtain ⟨sb, zb, ob⟩ := arr_hash (Tr.uppTo a0 qs ls t).2 hlu.2
            obtain ⟨sna, zna, ona⟩ := arr_hash (Tr.uppTo a0 qs ls (t + 1)).1 hlv.1
            obtain ⟨snb, znb, onb⟩ := arr_hash (Tr.uppTo a0 qs ls (t + 1)).2 hlv.2
            have h13 := H13.out
            have h14 := H14.out
            have hPt : (t : Int) < l := by omega
            cases b with
            | true =>
              have hs1 : (Tr.uppTo a0 qs ls (t + 1)).1 = (Tr.uppTo a0 qs ls t).1 := by rw [hstep]; rfl
              have hs2 : Tr.node (Tr.uppTo a0 qs ls t).2 p = (Tr.uppTo a0 qs ls (t + 1)).2 := by rw [hstep]; rfl
              rw [hs2] at n1
              obtain ⟨O, hO⟩ : ∃ O, bvs p = O := ⟨_, rfl⟩
              obtain ⟨UA, hUA⟩ : ∃ O, bvs (Tr.uppTo a0 qs ls t).1 = O := ⟨_, rfl⟩
              obtain ⟨UB, hUB⟩ : ∃ O, bvs (Tr.uppTo a0 qs ls t).2 = O := ⟨_, rfl⟩
              obtain ⟨NB, hNB⟩ : ∃ O, bvs (Tr.uppTo a0 qs ls (t + 1)).2 = O := ⟨_, rfl⟩
              rw [hUA] at h13
              rw [hUB] at h14 sb zb
              rw [hNB] at snb znb onb
              rw [hUB, hO, hNB] at n1
              rw [hO] at hpi gpw
              have G13 : Hid (∀ V, Later wr V → V.heap[b13]? = some (.cells UA.toArray 24 (0, 0))) := fun V hV => (hV.out.block _ (Array.getElem?_eq_some_iff.1 h13).1 id).trans h13
              have G14 : Hid (∀ V, Later wr V → V.heap[b14]? = some (.cells UB.toArray 24 (0, 0))) := fun V hV => (hV.out.block _ (Array.getElem?_eq_some_iff.1 h14).1 id).trans h14
              have GP : Hid (∀ V, Later wr V → V.rangeAt pb ((po + 32) + t * 32) O) := fun V hV => gpw V (kww V hV)
              have CN : Hid (∀ V, Later wr V → Calls Tryd.prog 19 #[.agg UB.toArray, .agg O.toArray] V fun e w' => e = .returned (.agg NB.toArray) ∧ Later wr w') := fun V hV => (n1 V).mono fun e w' hh => ⟨hh.1, ⟨hV.out.trans hh.2⟩⟩
              have SB := Lib.hid sb
              have SNB := Lib.hid snb
              have ONB := Lib.hid onb
              have ZBB := Lib.hid (zb.trans znb.symm)
              have HPI := Lib.hid hpi
              have HUA := Lib.hid hUA
              have HNB := Lib.hid hNB
              have HS1 := Lib.hid hs1
              clear n1 n2 n3 hnode gpw kww sa za oa sb zb ob sna zna ona snb znb onb hstep hlu hlv hs1 hs2 hUA hUB hNB hO hr1 hp32 hp hb hq hcl h13 h14 H13 H14 hpi ht
              go_wp2_with fail
              refine wp_region_phase 6 (Later wr) (by kernel_rfl) (by kernel_rfl) ⟨(Keeps.refl _ _).drew⟩ ?_
              simp only [List.take_succ_cons, List.take_zero, List.drop_succ_cons, List.drop_zero]
              refine class_load (by rfl) 24 (.tmp 14) (by rfl) b14 (by rfl) 24 UB.toArray (0, 0) _ G14.out Tryd.underlying24 rfl SB.out ?_
              simp only [Act.put, List.setIfInBounds_toArray, List.set_cons_zero, List.set_cons_succ]
              go_big_quiet_step ((intro _; rfl))
              go_big_quiet_step ((intro _; rfl))
              go_big_quiet_step ((intro _; rfl))
              refine class_mid (by rfl) 24 (.tmp 56) (by rfl) pb ((po + 32) + t * 32) (by rfl) (O) _ GP.out Tryd.underlying24 rfl HPI.out ?_
              simp only [Act.put, List.setIfInBounds_toArray, List.set_cons_zero, List.set_cons_succ]
              go_big_quiet_want
              go_big_quiet_op
              refine ⟨(.agg NB.toArray), fun V hV => CN.out V hV, ?_⟩
              go_big_quiet_on
              refine wpQuiet_nil ?_
              intro w6 k6
              have H14 := Lib.hid (G14.out w6 k6)
              have H13 := Lib.hid (G13.out w6 k6)
              have KN := Lib.hid ((HK2.out.trans (k6.out.mono (fun _ _ h => h.elim))).trans' (Keeps.setRow b14 NB.toArray) (fun i hi e => .inr e))
              have HN14 := Lib.hid (setRow_heap _ _ _ _ _ _ H14.out : (w6.setRow b14 NB.toArray).heap[b14]? = some (.cells NB.toArray 24 (0, 0)))
              have HN13 := Lib.hid ((setRow_other w6 b14 b13 NB.toArray (by have := HBN.out; omega)).trans H13.out)
              go_wp2_with (refine wpList_store_row rfl 24 _ _ rfl b14 NB.toArray rfl rfl 24 UB.toArray H14.out SNB.out ZBB.out ONB.out ?_)
              go_roundw
              case rel => exact ⟨t + 1, by omega, by go_num, by rw [HS1.out, HUA.out]; exact HN13, by rw [HNB.out]; exact HN14, KN⟩
              case measure => simp [intOf]; omega
            | false =>
              have hs1 : Tr.node p (Tr.uppTo a0 qs ls t).1 = (Tr.uppTo a0 qs ls (t + 1)).1 := by rw [hstep]; rfl
              have hs2 : Tr.node p (Tr.uppTo a0 qs ls t).2 = (Tr.uppTo a0 qs ls (t + 1)).2 := by rw [hstep]; rfl
              rw [hs1] at n2
              rw [hs2] at n3
              obtain ⟨O, hO⟩ : ∃ O, bvs p = O := ⟨_, rfl⟩
              obtain ⟨UA, hUA⟩ : ∃ O, bvs (Tr.uppTo a0 qs ls t).1 = O := ⟨_, rfl⟩
              obtain ⟨UB, hUB⟩ : ∃ O, bvs (Tr.uppTo a0 qs ls t).2 = O := ⟨_, rfl⟩
              obtain ⟨NA, hNA⟩ : ∃ O, bvs (Tr.uppTo a0 qs ls (t + 1)).1 = O := ⟨_, rfl⟩
              obtain ⟨NB, hNB⟩ : ∃ O, bvs (Tr.uppTo a0 qs ls (t + 1)).2 = O := ⟨_, rfl⟩
              rw [hUA] at h13 sa za
              rw [hUB] at h14 sb zb
              rw [hNA] at sna zna ona
              rw [hNB] at snb znb onb
              rw [hUA, hO, hNA] at n2
              rw [hUB, hO, hNB] at n3
              rw [hO] at hpi gpw
              have G13 : Hid (∀ V, Later wr V → V.heap[b13]? = some (.cells UA.toArray 24 (0, 0))) := fun V hV => (hV.out.block _ (Array.getElem?_eq_some_iff.1 h13).1 id).trans h13
              have G14 : Hid (∀ V, Later wr V → V.heap[b14]? = some (.cells UB.toArray 24 (0, 0))) := fun V hV => (hV.out.block _ (Array.getElem?_eq_some_iff.1 h14).1 id).trans h14
              have GP : Hid (∀ V, Later wr V → V.rangeAt pb ((po + 32) + t * 32) O) := fun V hV => gpw V (kww V hV)
              have GPW := Lib.hid gpw
              have CA : Hid (∀ V, Later wr V → Calls Tryd.prog 19 #[.agg O.toArray, .agg UA.toArray] V fun e w' => e = .returned (.agg NA.toArray) ∧ Later wr w') := fun V hV => (n2 V).mono fun e w' hh => ⟨hh.1, ⟨hV.out.trans hh.2⟩⟩
              have CNW := Lib.hid n3
              have SA := Lib.hid sa
              have SB := Lib.hid sb
              have SNA := Lib.hid sna
              have ONA := Lib.hid ona
              have SNB := Lib.hid snb
              have ONB := Lib.hid onb
              have ZAA := Lib.hid (za.trans zna.symm)
              have ZBB := Lib.hid (zb.trans znb.symm)
              have HPI := Lib.hid hpi
              have HNA := Lib.hid hNA
              have HNB := Lib.hid hNB
              clear n1 n2 n3 hnode gpw kww sa za oa sb zb ob sna zna ona snb znb onb hstep hlu hlv hs1 hs2 hUA hUB hNA hNB hO hr1 hp32 hp hb hq hcl h13 h14 H13 H14 hpi ht
              go_wp2_with fail
              refine wp_region_phase 6 (Later wr) (by kernel_rfl) (by kernel_rfl) ⟨(Keeps.refl _ _).drew⟩ ?_
              simp only [List.take_succ_cons, List.take_zero, List.drop_succ_cons, List.drop_zero]
              go_big_quiet_step ((intro _; rfl))
              go_big_quiet_step ((intro _; rfl))
              go_big_quiet_step ((intro _; rfl))
              refine class_mid (by rfl) 24 (.tmp 61) (by rfl) pb ((po + 32) + t * 32) (by rfl) (O) _ GP.out Tryd.underlying24 rfl HPI.out ?_
              simp only [Act.put, List.setIfInBounds_toArray, List.set_cons_zero, List.set_cons_succ]
              refine class_load (by rfl) 24 (.tmp 13) (by rfl) b13 (by rfl) 24 UA.toArray (0, 0) _ G13.out Tryd.underlying24 rfl SA.out ?_
              simp only [Act.put, List.setIfInBounds_toArray, List.set_cons_zero, List.set_cons_succ]
              go_big_quiet_want
              go_big_quiet_op
              refine ⟨(.agg NA.toArray), fun V hV => CA.out V hV, ?_⟩
              go_big_quiet_on
              refine wpQuiet_nil ?_
              intro w6 k6
              have H13 := Lib.hid (G13.out w6 k6)
              have h14 := G14.out w6 k6
              have KN1 := Lib.hid ((HK2.out.trans (k6.out.mono (fun _ _ h => h.elim))).trans' (Keeps.setRow b13 NA.toArray) (fun i hi e => .inl e))
              have hn13 : (w6.setRow b13 NA.toArray).heap[b13]? = some (.cells NA.toArray 24 (0, 0)) := setRow_heap _ _ _ _ _ _ H13.out
              have hn14 := (setRow_other w6 b13 b14 NA.toArray (by have := HBN.out; omega)).trans h14
              obtain ⟨wq, hwq⟩ : ∃ V, w6.setRow b13 NA.toArray = V := ⟨_, rfl⟩
              have HWQ := Lib.hid hwq
              have N13 : Hid (wq.heap[b13]? = some (.cells NA.toArray 24 (0, 0))) := Lib.hid (by rw [← hwq]; exact hn13)
              have N14 : Hid (wq.heap[b14]? = some (.cells UB.toArray 24 (0, 0))) := Lib.hid (by rw [← hwq]; exact hn14)
              have KNQ : Hid (Keeps (fun k => k = b13 ∨ k = b14) V9 wq) := Lib.hid (by rw [← hwq]; exact KN1.out)
              have kq : ∀ V, Later wq V → Keeps (fun k => b6 ≤ k) w V := fun V hV => (KV9.out.trans' KNQ.out (fun k hk h => by have := HBN.out; omega)).trans (hV.out.mono (fun _ _ h => h.elim))
              have G13' : Hid (∀ V, Later wq V → V.heap[b13]? = some (.cells NA.toArray 24 (0, 0))) := fun V hV => (hV.out.block _ (Array.getElem?_eq_some_iff.1 N13.out).1 id).trans N13.out
              have G14' : Hid (∀ V, Later wq V → V.heap[b14]? = some (.cells UB.toArray 24 (0, 0))) := fun V hV => (hV.out.block _ (Array.getElem?_eq_some_iff.1 N14.out).1 id).trans N14.out
              have GP' : Hid (∀ V, Later wq V → V.rangeAt pb ((po + 32) + t * 32) O) := fun V hV => GPW.out V (kq V hV)
              have CNQ : Hid (∀ V, Later wq V → Calls Tryd.prog 19 #[.agg O.toArray, .agg UB.toArray] V fun e w' => e = .returned (.agg NB.toArray) ∧ Later wq w') := fun V hV => (CNW.out V).mono fun e w' hh => ⟨hh.1, ⟨hV.out.trans hh.2⟩⟩
              clear hn13 hn14 h14 kq
              go_wp2_with (refine wpList_store_row rfl 24 _ _ rfl b13 NA.toArray rfl rfl 24 UA.toArray H13.out SNA.out ZAA.out ONA.out ?_)
              rw [hwq]
              clear hwq
              simp only [Act.put]
              refine wp_region_phase 6 (Later wq) (by kernel_rfl) (by kernel_rfl) ⟨(Keeps.refl _ _).drew⟩ ?_
              simp only [List.take_succ_cons, List.take_zero, List.drop_succ_cons, List.drop_zero]
              go_big_quiet_step ((intro _; rfl))
              go_big_quiet_step ((intro _; rfl))
              go_big_quiet_step ((intro _; rfl))
              refine class_mid (by rfl) 24 (.tmp 67) (by rfl) pb ((po + 32) + t * 32) (by rfl) (O) _ GP'.out Tryd.underlying24 rfl HPI.out ?_
              simp only [Act.put, List.setIfInBounds_toArray, List.set_cons_zero, List.set_cons_succ]
              refine class_load (by rfl) 24 (.tmp 14) (by rfl) b14 (by rfl) 24 UB.toArray (0, 0) _ G14'.out Tryd.underlying24 rfl SB.out ?_
              simp only [Act.put, List.setIfInBounds_toArray, List.set_cons_zero, List.set_cons_succ]
              go_big_quiet_want
              go_big_quiet_op
              refine ⟨(.agg NB.toArray), fun V hV => CNQ.out V hV, ?_⟩
              go_big_quiet_on
              refine wpQuiet_nil ?_
              intro w7 k7
              have H14 := Lib.hid (G14'.out w7 k7)
              have HB13 := Lib.hid (G13'.out w7 k7)
              have KN := Lib.hid ((KNQ.out.trans (k7.out.mono (fun _ _ h => h.elim))).trans' (Keeps.setRow b14 NB.toArray) (fun i hi e => .inr e))
              have HN14 := Lib.hid (setRow_heap _ _ _ _ _ _ H14.out : (w7.setRow b14 NB.toArray).heap[b14]? = some (.cells NB.toArray 24 (0, 0)))
              have HN13 := Lib.hid ((setRow_other w7 b14 b13 NB.toArray (by have := HBN.out; omega)).trans HB13.out)
              go_wp2_with (refine wpList_store_row rfl 24 _ _ rfl b14 NB.toArray rfl rfl 24 UB.toArray H14.out SNB.out ZBB.out ONB.out ?_)
              go_roundw
              case rel => exact ⟨t + 1, by omega, by go_num, by rw [HNA.out]; exact HN13, by rw [HNB.out]; exact HN14, KN⟩
              case measure => simp [intOf]; omega
          · obtain rfl : t = l := by omega
            have hlu := Tr.uppTo_length a0 qs ls t HA0.out
            have r8r := (HK2.out.block b8 (Array.getElem?_eq_some_iff.1 R8V.out).1 (by have := HBN.out; omega)).trans R8V.out
            have r9r := (HK2.out.block b9 (Array.getElem?_eq_some_iff.1 R9V.out).1 (by have := HBN.out; omega)).trans R9V.out
            obtain ⟨sa, za, oa⟩ := arr_hash (Tr.uppTo a0 qs ls t).1 hlu.1
            obtain ⟨sb, zb, ob⟩ := arr_hash (Tr.uppTo a0 qs ls t).2 hlu.2
            have h13 := H13.out
            have h14 := H14.out
            have hres := HRES.out
            obtain ⟨UA, hUA⟩ : ∃ O, bvs (Tr.uppTo a0 qs ls t).1 = O := ⟨_, rfl⟩
            obtain ⟨UB, hUB⟩ : ∃ O, bvs (Tr.uppTo a0 qs ls t).2 = O := ⟨_, rfl⟩
            rw [hUA] at h13 sa za oa hres
            rw [hUB] at h14 sb zb ob hres
            have kwr : Keeps (fun _ => False) w wr := KV9.out.trans' HK2.out (fun k hk h => by have := HBN.out; omega) |>.mono (fun k hk h => by have := HBN.out; omega)
            have HBW : Hid ((fun V => (V.heap[b13]? = some (.cells UA.toArray 24 (0, 0)) ∧ V.heap[b14]? = some (.cells UB.toArray 24 (0, 0))) ∧ Later w V) { wr with drawn := wr.drawn + 1 }) := Lib.hid ⟨⟨h13, h14⟩, ⟨kwr.drew⟩⟩
            have HFW : Hid ((fun V => V.heap[b8]? = some (.cells Z 24 (0, 0)) ∧ V.heap[b9]? = some (.cells Z 24 (0, 0))) { wr with drawn := wr.drawn + 1 }) := Lib.hid ⟨r8r, r9r⟩
            have SLA := Lib.hid (show (Tryd.prog.info? 24).map (·.size) = some UA.length by rw [← hUA, bvs_length, hlu.1]; exact size_hash')
            have SLB := Lib.hid (show (Tryd.prog.info? 24).map (·.size) = some UB.length by rw [← hUB, bvs_length, hlu.2]; exact size_hash')
            have SA := Lib.hid sa
            have SB := Lib.hid sb
            have ZA := Lib.hid (hzs.trans za.symm)
            have ZB := Lib.hid (hzs.trans zb.symm)
            have OA := Lib.hid oa
            have OB := Lib.hid ob
            have HR2 := Lib.hid hres
            clear sa za oa sb zb ob h13 h14 hres hUA hUB hlu r8r r9r kwr H13 H14 HK2 ht htl
            go_wp2_with fail
            refine wp_region_stores 5 [2, 3] [0, 1, 2, 3, 4] (fun V => (V.heap[b13]? = some (.cells UA.toArray 24 (0, 0)) ∧ V.heap[b14]? = some (.cells UB.toArray 24 (0, 0))) ∧ Later w V) (fun V => V.heap[b8]? = some (.cells Z 24 (0, 0)) ∧ V.heap[b9]? = some (.cells Z 24 (0, 0))) (by kernel_rfl) (by kernel_rfl) (Lasts.and (Lasts.and (Lasts.block _ _) (Lasts.block _ _)) (Lasts.later w)) (Lasts.and (Lasts.block _ _) (Lasts.block _ _)) (HBW.out) (HFW.out) ?_
            refine T_load (get_op rfl) (by rfl) (by rfl) 24 (.tmp 13) (by rfl) b13 0 (by rfl) UA _ (fun V hV => row_range hV.1.1) Tryd.underlying24 rfl SLA.out ?_
            simp only [Act.put, List.setIfInBounds_toArray, List.set_cons_zero, List.set_cons_succ]
            refine T_load (get_op rfl) (by rfl) (by rfl) 24 (.tmp 14) (by rfl) b14 0 (by rfl) UB _ (fun V hV => row_range hV.1.2) Tryd.underlying24 rfl SLB.out ?_
            simp only [Act.put, List.setIfInBounds_toArray, List.set_cons_zero, List.set_cons_succ]
            refine T_store (get_op rfl) (by rfl) (by rfl) 24 (.tmp 8) (.tmp 71) (by rfl) (by rfl) b8 (by rfl) UA.toArray Z (by rfl) 24 SA.out ZA.out OA.out (fun V => V.heap[b8]? = some (.cells UA.toArray 24 (0, 0)) ∧ V.heap[b9]? = some (.cells Z 24 (0, 0))) (Lasts.and (Lasts.block _ _) (Lasts.block _ _)) (fun V hb hf => ⟨hf.1, ⟨⟨(setRow_other V b8 b13 _ (by have := HBN.out; omega)).trans hb.1.1, (setRow_other V b8 b14 _ (by have := HBN.out; omega)).trans hb.1.2⟩, ⟨hb.2.out.trans' (Keeps.setRow _ _) (fun i hi h => by have := HBN.out; omega)⟩⟩, setRow_heap _ _ _ _ _ _ hf.1, (setRow_other V b8 b9 _ (by have := HBN.out; omega)).trans hf.2⟩) ?_
            refine T_store (get_op rfl) (by rfl) (by rfl) 24 (.tmp 9) (.tmp 72) (by rfl) (by rfl) b9 (by rfl) UB.toArray Z (by rfl) 24 SB.out ZB.out OB.out (fun V => V.heap[b8]? = some (.cells UA.toArray 24 (0, 0)) ∧ V.heap[b9]? = some (.cells UB.toArray 24 (0, 0))) (Lasts.and (Lasts.block _ _) (Lasts.block _ _)) (fun V hb hf => ⟨hf.2, ⟨⟨(setRow_other V b9 b13 _ (by have := HBN.out; omega)).trans hb.1.1, (setRow_other V b9 b14 _ (by have := HBN.out; omega)).trans hb.1.2⟩, ⟨hb.2.out.trans' (Keeps.setRow _ _) (fun i hi h => by have := HBN.out; omega)⟩⟩, (setRow_other V b9 b8 _ (by have := HBN.out; omega)).trans hf.1, setRow_heap _ _ _ _ _ _ hf.2⟩) ?_
            refine T_quiet (get_op rfl) (by rfl) (by rfl) (by rfl) ?_
            intro K hK
            go_big_quiet_op
            first | go_big_quiet_on | go_big_quiet_call ((intro _; rfl))
            refine T_nil ?_
            intro w20 hb20 hf20
            simp only [List.drop_succ_cons, List.drop_zero]
            have HC := Lib.hid hf20.1
            have HD := Lib.hid hf20.2
            have KF := Lib.hid hb20.2.out
            clear hf20 hb20
            go_wp2
            refine bodyPost_ret (results_cell_cell_tmp rfl _ _ b8 24 UA.toArray (0, 0) _ b9 24 UB.toArray (0, 0) _ rfl HC.out Tryd.underlying24 rfl SA.out rfl HD.out Tryd.underlying24 rfl SB.out) rfl ?_
            exact ⟨congrArg (fun R : Array Value × Array Value => Ending.returned (Value.tuple #[.agg R.1, .agg R.2, .bool true])) HR2.out, KF.out⟩
  · have hne : ((P : Int) != (S : Int)) = true := by rw [bne_iff_ne]; omega
    have hq1 := HQB.out
    rw [decide_eq_false hPS] at hq1
    subst hq1
    have hra := HRA.out
    have hrb := HRB.out
    rw [if_neg hPS] at hra hrb
    rw [HZ.out] at hra hrb
    subst hra
    subst hrb
    have sz : (Tryd.prog.info? 24).map (·.size) = some Z.size := by rw [hzs]; exact size_hash'
    have oz : Z.all (·.oneCell') = true := by rw [← HZ.out]; exact bvs_all _
    have hh := two_rows (R1 := Z) (R2 := Z) (show b8 ≠ b9 by have := HB.out; omega) R85.out R95.out
    have H8 := Lib.hid R85.out
    have H9 := Lib.hid hh.1
    have HC := Lib.hid hh.2.1
    have HD := Lib.hid hh.2.2
    have KF := Lib.hid ((K5.out.trans' (Keeps.setRow b8 Z) (fun k hk e => by have := HB.out; omega)).trans' (Keeps.setRow b9 Z) (fun k hk e => by have := HB.out; omega))
    have hbz : ∀ V : World, (Instr.build 24 #[]).run Tryd.prog V = .ok (.agg Z) V := fun V => by rw [← HZ.out]; kernel_rfl
    have HBZ := Lib.hid hbz
    have SZ := Lib.hid sz
    have OZ := Lib.hid oz
    clear sz oz hbz hh
    go_wp2_with (first
      | (refine wpList_build_none (by rfl) 24 (by rfl) (.agg Z) (HBZ.out _) ?_)
      | (refine wpList_store_row rfl 24 _ _ rfl b8 Z rfl rfl 24 Z H8.out SZ.out rfl OZ.out ?_)
      | (refine wpList_store_row rfl 24 _ _ rfl b9 Z rfl rfl 24 Z H9.out SZ.out rfl OZ.out ?_))
    refine bodyPost_ret (results_cell_cell_tmp rfl _ _ b8 24 Z (0, 0) _ b9 24 Z (0, 0) _ rfl HC.out Tryd.underlying24 rfl SZ.out rfl HD.out Tryd.underlying24 rfl SZ.out) rfl ?_
    exact ⟨rfl, KF.out⟩
end Go.Proofs.YtfokemminjikpaaDoor
