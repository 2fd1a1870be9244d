/-
  The document's example of layer 5 holds: 'awake' returns true, and leaves all that was as it was. WRITTEN BY wip/gen/mkfrw.py.
-/
import Derived.Test.YtnnhbgaeohdojaaDoorFrD
import Derived.Test.YtnnhbgaeohdojaaDoorTrL
namespace Go.Proofs.YtnnhbgaeohdojaaDoor
open Go.RowKit Go.BigFrame
set_option linter.unusedVariables false

theorem Fro.grown {w w' : World} {base g sz : Nat} {ps : List (List UInt8)} (h : Fro w base g sz ps) {b2 size2 n2 : Nat} {e2 : TypeId} {v2 : Value} {xs2 : List Value} (ho : w.ownsRow b2 e2 size2 v2 n2 xs2) (hg : w.grownBy w' v2.ownBlock) (h1 : 81 ≠ e2) (h2 : 34 ≠ e2) : Fro w' base g sz ps := by
  obtain ⟨v, hr, hv⟩ := h.var
  have hk : Keeps (fun k => v2.ownBlock = some k) w w' := (Keeps.refl _ _).grown hg (fun _ _ h => h)
  refine ⟨h.lo, h.all, v, hr.keeps hk (fun e => own_apart ho hr h1 g e rfl), hk.owns hv (fun k hk2 e => ?_)⟩
  obtain ⟨c1, g1, _⟩ := own_block hv k hk2
  obtain ⟨c2, g2, _⟩ := own_block ho k e
  rw [g1] at g2
  injection g2 with g2
  injection g2 with _ g2
  exact h2 g2
def rowVal5 (r : RowOf) : Value := .slice r.1 r.2.2.length r.2.1
/-- One byte each, in the blocks bs. -/
def oneRow (p : Nat × Nat) : RowOf := (some ⟨p.1, 0, none⟩, 1, [UInt8.ofNat p.2])
def rowsOf (bs : List Nat) : List RowOf := bs.zipIdx.map oneRow
theorem rowsOf_snoc (bs : List Nat) (b : Nat) : rowsOf (bs ++ [b]) = rowsOf bs ++ [oneRow (b, bs.length)] := by simp [rowsOf, List.zipIdx_append]
theorem rowsOf_length (bs : List Nat) : (rowsOf bs).length = bs.length := by simp [rowsOf]
def bytes1 (n : Nat) : List (List UInt8) := (List.range n).map fun k => [UInt8.ofNat k]
theorem ents_rowsOf (bs : List Nat) : ents (rowsOf bs) = bytes1 bs.length := by
  apply List.ext_getElem
  · simp [ents, rowsOf, bytes1]
  · intro i h1 h2
    simp [ents, rowsOf, bytes1, oneRow]
theorem bytes1_snoc (n : Nat) : bytes1 (n + 1) = bytes1 n ++ [[UInt8.ofNat n]] := by simp [bytes1, List.range_succ]
theorem rowsOf_mem (bs : List Nat) : ∀ r ∈ rowsOf bs, ∃ k b, bs[k]? = some b ∧ r = oneRow (b, k) := fun r hr => by
  unfold rowsOf at hr
  obtain ⟨⟨b, k⟩, h1, rfl⟩ := List.mem_map.1 hr
  have := List.mem_zipIdx h1
  exact ⟨k, b, by rw [List.getElem?_eq_getElem (by omega)]; congr 1; simp [this.2.2], rfl⟩
theorem rowsAt_own {w : World} {base n c : Nat} {A : Option Addr} {bs : List Nat} (ho : w.ownsRow base 55 1 (.slice A n c) n ((rowsOf bs).map rowVal5)) (hr : ∀ k b, bs[k]? = some b → Row w b 5 (bvs [UInt8.ofNat k])) : RowsAt w A (rowsOf bs) := by
  refine ⟨fun i r hi => ?_, fun r hm => ?_, fun r hm => ?_⟩
  · have hl : ((rowsOf bs).map rowVal5)[i]? = some (rowVal5 r) := by rw [List.getElem?_map, hi]; rfl
    rcases ho.2 with ⟨h1, h2⟩ | ⟨g, cap, cur, h1, _⟩
    · have h3 := (List.getElem?_eq_some_iff.1 hl).1
      rw [ho.1, h2] at h3
      omega
    · injection h1 with h1 _ _
      subst h1
      exact ⟨_, rfl, ho.cells (g := g) rfl i _ hl⟩
  · obtain ⟨k, b, hb, rfl⟩ := rowsOf_mem bs r hm
    exact src_blk (hr k b hb)
  · obtain ⟨k, b, hb, rfl⟩ := rowsOf_mem bs r hm
    exact ⟨Nat.le_refl _, by show (1 : Nat) ≤ _; omega⟩
set_option maxRecDepth 100000 in
set_option maxHeartbeats 4000000 in
theorem awake5_any (w : World) (hT : Tabs w) :
    Calls Tryd.prog 29 #[] w fun e w' => e = .returned (.bool true) ∧ Keeps (fun _ => False) w w' := by
  obtain ⟨b, hb⟩ : ∃ b, w.heap.size = b := ⟨_, rfl⟩
  have hb2 : 2 ≤ b := by have := hT.lt; omega
  have hnew := new_any w
  rw [hb] at hnew
  obtain ⟨i0, hi0, hz0, hs0, hb0⟩ := info_parts (show (Tryd.prog.info? 55).map (fun i => (i.zero, i.size, i.bytes)) = some (some (.slice none 0 0), 1, 24) by kernel_rfl)
  have HT := Lib.hid hT
  have HB := Lib.hid hb
  have HNEW := Lib.hid hnew
  have HII := Lib.hid (And.intro hi0 (And.intro hz0 (And.intro hs0 hb0)))
  clear hT hnew hi0 hz0 hs0 hb0
  go_enter Tryd.func29, Tryd.ntmps29
  go_wp2_with fail
  refine HNEW.out.mono ?_
  rintro e w1 ⟨rfl, hf1, k1⟩
  have HF1 := Lib.hid hf1
  have K1 := Lib.hid k1
  clear hf1 k1
  go_wp2_with fail
  go_loopw [2, 3] (fun lv iv wr => ∃ (i : Nat) (A2 : Option Addr) (c2 : Nat) (bs : List Nat), i ≤ 7 ∧ lv = .slice A2 i c2 ∧ iv = .int .i64 (i : Int) ∧ Hid (bs.length = i ∧ ∀ k q, bs[k]? = some q → Row wr q 5 (bvs [UInt8.ofNat k])) ∧ Hid (wr.ownsRow b 55 1 (.slice A2 i c2) i ((rowsOf bs).map rowVal5)) ∧ Hid (Fro wr b b i (Tr.pk (bytes1 i))) ∧ Hid (Keeps (fun _ => False) w wr)) (fun _ iv _ => 7 - (intOf iv).toNat)
  case atStart => exact ⟨0, none, 0, [], by omega, rfl, rfl, Lib.hid ⟨rfl, fun k q h => by simp at h⟩, Lib.hid (World.ownsRow_nil _ _ _ _), HF1, K1⟩
  case round =>
    clear HF1 K1
    obtain ⟨i, A2, c2, bs, hi, rfl, rfl, HBS, HO, HF, HK⟩ := hrel
    by_cases hlt : i < 7
    · have hw8 : IntKind.u8.wrap (i : Int) = (i : Int) := by rw [IntKind.wrap_u8]; omega
      have hbw : b ≤ wr.heap.size := by rw [← HB.out]; exact HK.out.size
      have hbi : ((UInt8.ofNat i).toNat : Int) = (i : Int) := by rw [UInt8.toNat_ofNat', Nat.mod_eq_of_lt (by omega)]
      have hbv : bvs [UInt8.ofNat i] = [.int .u8 (i : Int)] := by unfold bvs bv; rw [List.map_cons, hbi]; rfl
      have HBV := Lib.hid hbv
      have hi7 : (i : Int) < 7 := by omega
      obtain ⟨V1, hV1⟩ : ∃ V, wr.alloc (.cells #[.int .u8 (i : Int)] 5) = V := ⟨_, rfl⟩
      obtain ⟨V2, hV2⟩ : ∃ V, V1.alloc (.cells #[.slice (some ⟨wr.heap.size, 0, none⟩) 1 1] 55) = V := ⟨_, rfl⟩
      have k1 : Keeps (fun _ => False) wr V1 := by rw [← hV1]; exact (Keeps.refl _ _).alloc _
      have k2 : Keeps (fun _ => False) V1 V2 := by rw [← hV2]; exact (Keeps.refl _ _).alloc _
      have r1 : V1.heap[wr.heap.size]? = some (.cells #[.int .u8 (i : Int)] 5 (0, 0)) := by rw [← hV1]; exact heap_alloc_new wr _
      have r2 : V2.heap[V1.heap.size]? = some (.cells #[.slice (some ⟨wr.heap.size, 0, none⟩) 1 1] 55 (0, 0)) := by rw [← hV2]; exact heap_alloc_new V1 _
      have K12 := Lib.hid (k1.trans k2)
      have R12 := Lib.hid ((k2.block _ (Array.getElem?_eq_some_iff.1 r1).1 id).trans r1)
      have R2 := Lib.hid r2
      have hs12 := (k1.trans k2).size
      clear k1 k2 r1 r2 hbv hbi
      go_wp2_with (refine wpList_append_own _ (by rfl) (.tmp 10) (.tmp 14) 22 (by rfl) b 55 i0 (.slice none 0 0) 1 24 Tryd.underlying22 HII.out.1 HII.out.2.1 HII.out.2.2.1 HII.out.2.2.2 rfl (by decide) (.slice A2 i c2) i ((rowsOf bs).map rowVal5) (by rfl) (K12.out.owns HO.out (fun _ _ => id)) ⟨V1.heap.size, 0, none⟩ 1 1 [.slice (some ⟨wr.heap.size, 0, none⟩) 1 1] (by rfl) (by rfl) (World.news_of_block R2.out) (by intro u hu; rw [List.mem_singleton] at hu; subst hu; rfl) (by unfold maxLen; omega) (by omega) (by omega) ?_; intro v3 V3 ho3 hg3 _; have HO3 := Lib.hid ho3; have HG3 := Lib.hid hg3; obtain ⟨A3, c3, rfl⟩ := own_slice ho3; clear ho3 hg3)
      have hne3 : V3.ownsRow b 55 1 (.slice A3 (i + 1) c3) (i + 1) ((rowsOf (bs ++ [wr.heap.size])).map rowVal5) := by
        have h := HO3.out
        rw [rowsOf_snoc, List.map_append]
        exact h
      have k23 : Keeps (fun k => (Value.slice A2 i c2).ownBlock = some k) V2 V3 := (Keeps.refl _ _).grown HG3.out (fun _ _ h => h)
      have ho2 := K12.out.owns HO.out (fun _ _ => id)
      have hrow3 : ∀ k q, (bs ++ [wr.heap.size])[k]? = some q → Row V3 q 5 (bvs [UInt8.ofNat k]) := fun k q hq => by
        have hr2 : Row V2 q 5 (bvs [UInt8.ofNat k]) := by
          rcases Nat.lt_or_ge k bs.length with hk | hk
          · rw [List.getElem?_append_left hk] at hq
            exact (HBS.out.2 k q hq).keeps K12.out id
          · rw [List.getElem?_append_right hk] at hq
            obtain ⟨hk0, rfl⟩ : k - bs.length = 0 ∧ wr.heap.size = q := by
              have hlt0 := (List.getElem?_eq_some_iff.1 hq).1
              simp at hlt0
              have h0 : k - bs.length = 0 := by omega
              rw [h0] at hq
              exact ⟨h0, by simpa using hq⟩
            have hki : k = i := by have := HBS.out.1; omega
            rw [hki, HBV.out]
            exact R12.out
        exact hr2.keeps k23 (fun e => own_apart ho2 hr2 (by decide) q e rfl)
      have hf3 : Fro V3 b b i (Tr.pk (bytes1 i)) := (HF.out.later K12.out).grown ho2 HG3.out (by decide) (by decide)
      have kw3 : Keeps (fun _ => False) w V3 := (HK.out.trans K12.out).trans' k23 (fun k hk e => by
        obtain ⟨_, _, hbk⟩ := own_block ho2 k e
        have := HB.out
        omega)
      have hl1 : (bytes1 i).length = i := by simp [bytes1]
      have hadd := fadd_any b b i (Tr.pk (bytes1 i)) (some ⟨wr.heap.size, 0, none⟩) 1 [UInt8.ofNat i] V3 (HT.out.keeps kw3 id id) hf3 (src_blk (hrow3 i wr.heap.size (by rw [List.getElem?_append_right (by have := HBS.out.1; omega), HBS.out.1, Nat.sub_self]; rfl))) (Nat.le_refl _) (by omega) (by show (1 : Nat) ≤ 1000; omega) (by omega) (by rw [Tr.pk_length _ (by omega), hl1]) hb2
      rw [show Tr.addP i (Tr.pk (bytes1 i)) (Tr.leaf [UInt8.ofNat i]) = Tr.pk (bytes1 (i + 1)) by rw [bytes1_snoc, Tr.pk_snoc, hl1], show ([UInt8.ofNat i] : List UInt8).length = 1 from rfl] at hadd
      obtain ⟨g3, cc3, e3⟩ := own_top HO3.out (by omega)
      injection e3 with e3 _ e33
      subst e3
      subst e33
      have hc3 : V3.cell? ⟨g3, i, none⟩ = some (.slice (some ⟨wr.heap.size, 0, none⟩) 1 1) := by
        have h := HO3.out.cells (g := g3) rfl i (.slice (some ⟨wr.heap.size, 0, none⟩) 1 1) (by rw [List.getElem?_append_right (by rw [List.length_map, rowsOf_length, HBS.out.1]; exact Nat.le_refl _), List.length_map, rowsOf_length, HBS.out.1, Nat.sub_self]; rfl)
        rw [add_plain, Nat.zero_add] at h
        exact h
      have HADD := Lib.hid hadd
      have HO3' := Lib.hid hne3
      have HR3 := Lib.hid hrow3
      have HF3 := Lib.hid hf3
      have KW3 := Lib.hid kw3
      have HL1 := Lib.hid hl1
      have hii : (i : Int) < (i : Int) + 1 := by omega
      have hii2 : (i : Int) < ((i + 1 : Nat) : Int) := by omega
      clear hne3 k23 ho2 hrow3 hf3 kw3 hadd hl1 HO HF HG3 HO3 hV1 hV2
      go_wp2_with (go_at_call 39; refine HADD.out.mono ?_; rintro e w4 ⟨rfl, hf4, k4⟩; have HF4 := Lib.hid hf4; have K4 := Lib.hid k4; clear hf4 k4)
      obtain ⟨vf, hvr, _⟩ := HF3.out.var
      go_roundw
      case rel => exact ⟨i + 1, some ⟨g3, 0, none⟩, c3, bs ++ [wr.heap.size], by omega, rfl, by go_num, Lib.hid ⟨by rw [List.length_append, HBS.out.1]; rfl, fun k q hq => (HR3.out k q hq).keeps K4.out (fun e => by
          have h := HR3.out k q hq
          subst e
          unfold Row at h hvr
          rw [h] at hvr
          injection hvr with hvr
          injection hvr with _ hvr _
          exact absurd hvr (by decide))⟩, Lib.hid (K4.out.owns HO3'.out (fun k e => own_apart HO3'.out hvr (by decide) k e)), HF4, Lib.hid (KW3.out.trans' K4.out (fun k hk e => by have := HB.out; omega))⟩
      case measure => simp [intOf]; omega
    · obtain rfl : i = 7 := by omega
      obtain ⟨gl, cl, e2⟩ := own_top HO.out (by omega)
      have hcl := own_cap HO.out
      injection e2 with e2 _ e22
      subst e2
      subst e22
      have hra := rowsAt_own HO.out HBS.out.2
      have hrl : (rowsOf bs).length = 7 := by rw [rowsOf_length]; exact HBS.out.1
      have hre : ents (rowsOf bs) = bytes1 7 := by rw [ents_rowsOf, HBS.out.1]
      have hrs : ∀ r ∈ rowsOf bs, r.2.2.length ≤ 1000 := fun r hr => by
        obtain ⟨k, q, _, rfl⟩ := rowsOf_mem bs r hr
        show (1 : Nat) ≤ 1000
        omega
      have hpk7 : Tr.pk (bytes1 7) = [Tr.root [[0], [1], [2], [3]], Tr.root [[4], [5]], Tr.leaf [6]] := Tr.pk_seven [0] [1] [2] [3] [4] [5] [6]
      have htk : (bytes1 7).take 4 = [[0], [1], [2], [3]] := rfl
      have hpr : Tr.peakRoot (Tr.pk (bytes1 7)) = Tr.root (bytes1 7) := Tr.peakRoot_pk _ (by show (7 : Nat) < _; omega)
      have hpl : (Tr.pk (bytes1 7)).length = On.ones 64 7 := Tr.pk_length (bytes1 7) (by show (7 : Nat) < _; omega)
      have hf7 := HF.out
      have hall := hf7.all
      have hfr := fun V (hV : Keeps (fun _ => False) wr V) => froot_any b b 7 _ V (HT.out.keeps (HK.out.trans hV) id id) (hf7.later hV) (by omega) hpl
      have hpe := peaks_any b b 7 _ wr hf7 (by rw [hpl]; decide)
      have hsz := fun V (hV : Keeps (fun _ => False) wr V) => size_any b b 7 _ V (hf7.later hV)
      have hr7 := fun V (hV : Keeps (fun _ => False) wr V) => root_any (some ⟨gl, 0, none⟩) c2 (rowsOf bs) V (HT.out.keeps (HK.out.trans hV) id id) (hra.keeps hV (fun _ _ => id)) (by rw [hrl]; exact hcl.2.1) hcl.2.2 hrs
      have hr4 := fun V (hV : Keeps (fun _ => False) wr V) => root_any (some ⟨gl, 0, none⟩) c2 ((rowsOf bs).take 4) V (HT.out.keeps (HK.out.trans hV) id id) ((hra.keeps hV (fun _ _ => id)).take 4) (by rw [List.length_take, hrl]; have := hcl.2.1; omega) hcl.2.2 (fun r hr => hrs r (List.mem_of_mem_take hr))
      have e4 : ents ((rowsOf bs).take 4) = [[0], [1], [2], [3]] := by rw [← htk, ← hre]; simp [ents, List.map_take]
      have l4 : ((rowsOf bs).take 4).length = 4 := by rw [List.length_take, hrl]; rfl
      rw [hrl, hre] at hr7
      rw [l4, e4] at hr4
      rw [hpr] at hfr
      rw [hpk7] at hpe hall
      obtain ⟨p0, hp0⟩ : ∃ p, Tr.root [[0], [1], [2], [3]] = p := ⟨_, rfl⟩
      obtain ⟨p1, hp1⟩ : ∃ p, Tr.root [[4], [5]] = p := ⟨_, rfl⟩
      obtain ⟨l6, hl6⟩ : ∃ p, Tr.leaf [6] = p := ⟨_, rfl⟩
      have hll6 := Tr.leaf_length [6]
      have hlp0 : (Tr.root [[0], [1], [2], [3]]).length = 32 := Tr.root_length _
      have hlr7 : (Tr.root (bytes1 7)).length = 32 := Tr.root_length _
      have hleaf : ∀ A V, Keeps (fun _ => False) wr V → Src V A (bvs [6]) → Calls Tryd.prog 43 #[.slice A 1 1] V fun e w' => e = .returned (.agg (bvs (Tr.leaf [6])).toArray) ∧ Keeps (fun _ => False) V w' := fun A V hV hS => leaf_any A 1 [6] V (HT.out.keeps (HK.out.trans hV) id id) hS (Nat.le_refl _) (by omega) (by show (1 : Nat) ≤ _; omega)
      rw [hp0, hp1, hl6] at hpe hall
      rw [hp0] at hr4 hlp0
      rw [hl6] at hleaf hll6
      obtain ⟨r7, hr7n⟩ : ∃ p, Tr.root (bytes1 7) = p := ⟨_, rfl⟩
      rw [hr7n] at hfr hr7 hlr7
      obtain ⟨u0, hu0, _⟩ := info_parts info_u8t
      have heq : ∀ x : List UInt8, x.length = 32 → ∀ V, (binOp .eql 34 (.agg (bvs x).toArray) (.agg (bvs x).toArray)).run Tryd.prog V = .ok (.bool true) V := fun x hx V => by
        rw [run_eql_bytes (P := Tryd.prog) V 34 5 32 Tryd.underlying34 Tryd.underlying5 hu0 (by kernel_rfl) (by kernel_rfl) _ _ hx hx]
        simp
      have q6 := heq l6 hll6
      have q0 := heq p0 hlp0
      have q7 := heq r7 hlr7
      have s6 : (Tryd.prog.info? 34).map (·.size) = some (bvs l6).length := by rw [bvs_length, hll6]; exact size_hash'
      have s0 : (Tryd.prog.info? 34).map (·.size) = some (bvs p0).length := by rw [bvs_length, hlp0]; exact size_hash'
      obtain ⟨L6, hL6⟩ : ∃ R, bvs l6 = R := ⟨_, rfl⟩
      obtain ⟨P0, hP0⟩ : ∃ R, bvs p0 = R := ⟨_, rfl⟩
      obtain ⟨R7, hR7⟩ : ∃ R, bvs r7 = R := ⟨_, rfl⟩
      rw [hL6] at hleaf q6 s6
      rw [hP0] at hr4 q0 s0
      rw [hR7] at hfr hr7 q7
      have S6 := Lib.hid s6
      have S0 := Lib.hid s0
      have E6 := Lib.hid q6
      have E0 := Lib.hid q0
      have E7 := Lib.hid q7
      have HPE := Lib.hid hpe
      have HALL := Lib.hid hall
      have HL6W := Lib.hid hleaf
      have HFRW := Lib.hid hfr
      have HR7W := Lib.hid hr7
      have HR4W := Lib.hid hr4
      have HSZW := Lib.hid hsz
      have HL6E := Lib.hid hL6
      have HP0E := Lib.hid hP0
      have h4c : (4 : Int) ≤ c2 := by have := hcl.2.1; omega
      clear hra hrl hre hrs hpk7 htk hpr hpl hf7 hall hfr hpe hsz hr7 hr4 e4 l4 hp0 hp1 hl6 hll6 hlp0 hlr7 hleaf hr7n hu0 heq q6 q0 q7 s6 s0 hL6 hP0 hR7 hcl HO HF HBS hi
      go_wp2_with fail
      refine HPE.out.mono ?_
      rintro e w9 ⟨v, rfl, ho9, k9⟩
      obtain ⟨gp, cp, rfl⟩ := own_top ho9 (by show 0 < 3; omega)
      have hp9 := PathAt.of_own' ho9 HALL.out
      have hrg : ∀ i x, ([p0, p1, l6] : List (List UInt8))[i]? = some x → ∀ V, Later w9 V → V.rangeAt gp (i * 32) (bvs x) := fun i x hx V hV => by
        obtain ⟨b1, o1, eb, hr1⟩ := (hp9.keeps hV.out (fun _ _ => id)).lie i x hx
        injection eb with eb
        injection eb with eb1 eb2 _
        subst eb1
        subst eb2
        rw [Nat.zero_add] at hr1
        exact hr1
      have HP0 : Hid (∀ V, Later w9 V → V.rangeAt gp 0 P0) := Lib.hid (fun V hV => by have h := hrg 0 p0 rfl V hV; rw [HP0E.out] at h; exact h)
      have HP2 : Hid (∀ V, Later w9 V → V.rangeAt gp 64 L6) := Lib.hid (fun V hV => by have h := hrg 2 l6 rfl V hV; rw [HL6E.out] at h; exact h)
      have LK : ∀ V, Later w9 V → Keeps (fun _ => False) wr V := fun V hV => k9.trans hV.out
      have SZ : Hid (∀ V, Later w9 V → Calls Tryd.prog 33 #[.pointer (some ⟨b, 0, none⟩)] V fun e w' => e = .returned (.int .u64 7) ∧ Keeps (fun _ => False) V w') := Lib.hid (fun V hV => (HSZW.out V (LK V hV)).mono fun e w' h => ⟨h.1, by rw [h.2]; exact Keeps.refl _ _⟩)
      have HL6 : Hid (∀ g1 V, Later w9 V → Made w9 5 #[.int .u8 6] (.slice (some ⟨g1, 0, none⟩) 1 1) V → Calls Tryd.prog 43 #[.slice (some ⟨g1, 0, none⟩) 1 1] V fun e w' => e = .returned (.agg L6.toArray) ∧ Keeps (fun _ => False) V w') := Lib.hid (fun g1 V hV hm => by
        obtain ⟨g', fr, _, hv, hg⟩ := hm
        injection hv with hv
        injection hv with hv
        injection hv with hv
        subst hv
        exact HL6W.out _ V (LK V hV) (src_blk (fr := fr) (t := 5) hg))
      have HR4 := Lib.hid (fun V (hV : Later w9 V) => HR4W.out V (LK V hV))
      have HR7 := Lib.hid (fun V (hV : Later w9 V) => HR7W.out V (LK V hV))
      have HFR := Lib.hid (fun V (hV : Later w9 V) => HFRW.out V (LK V hV))
      have FIN : Hid (∀ V, Later w9 V → Keeps (fun _ => False) w V) := fun V hV => HK.out.trans (LK V hV)
      clear hp9 hrg LK ho9 k9
      go_wp2_with fail
      refine wp_region_loose [12] [0, 1, 2, 3, 4, 5, 6, 7, 8, 9, 10, 11, 12, 13, 14, 15, 16, 17, 18, 19, 20, 21, 22, 23, 24, 25, 26, 27, 28, 29, 30, 31, 32] (by kernel_rfl) (by kernel_rfl) ?_
      refine R_value (get_op rfl) (by rfl) (by rfl) (.pointer (some ⟨b, 0, none⟩)) (fun _ _ => by go_simp) ?_
      simp only [Act.put, List.setIfInBounds_toArray, List.set_cons_zero, List.set_cons_succ]
      refine R_call (get_op rfl) (by rfl) (by rfl) _ _ (.int .u64 7) (fun _ => by go_simp) (fun V hV => SZ.out V hV) ?_
      simp only [Act.put, List.setIfInBounds_toArray, List.set_cons_zero, List.set_cons_succ]
      refine R_value (get_op rfl) (by rfl) (by rfl) (.bool true) (fun _ _ => by go_simp) ?_
      simp only [Act.put, List.setIfInBounds_toArray, List.set_cons_zero, List.set_cons_succ]
      refine R_value (get_op rfl) (by rfl) (by rfl) (.bool true) (fun _ _ => by go_simp) ?_
      simp only [Act.put, List.setIfInBounds_toArray, List.set_cons_zero, List.set_cons_succ]
      refine R_value (get_op rfl) (by rfl) (by rfl) (.slice (some ⟨gp, 0, none⟩) 3 cp) (fun _ _ => by go_simp) ?_
      simp only [Act.put, List.setIfInBounds_toArray, List.set_cons_zero, List.set_cons_succ]
      refine R_value (get_op rfl) (by rfl) (by rfl) (.int .i64 3) (fun _ _ => by go_simp) ?_
      simp only [Act.put, List.setIfInBounds_toArray, List.set_cons_zero, List.set_cons_succ]
      refine R_value (get_op rfl) (by rfl) (by rfl) (.bool true) (fun _ _ => by go_simp) ?_
      simp only [Act.put, List.setIfInBounds_toArray, List.set_cons_zero, List.set_cons_succ]
      refine R_value (get_op rfl) (by rfl) (by rfl) (.bool true) (fun _ _ => by go_simp) ?_
      simp only [Act.put, List.setIfInBounds_toArray, List.set_cons_zero, List.set_cons_succ]
      refine R_value (get_op rfl) (by rfl) (by rfl) (.bool true) (fun _ _ => by go_simp) ?_
      simp only [Act.put, List.setIfInBounds_toArray, List.set_cons_zero, List.set_cons_succ]
      refine R_value (get_op rfl) (by rfl) (by rfl) (.slice (some ⟨gp, 0, none⟩) 3 cp) (fun _ _ => by go_simp) ?_
      simp only [Act.put, List.setIfInBounds_toArray, List.set_cons_zero, List.set_cons_succ]
      refine R_value (get_op rfl) (by rfl) (by rfl) (.pointer (some ⟨gp, 64, none⟩)) (fun _ _ => by go_simp) ?_
      simp only [Act.put, List.setIfInBounds_toArray, List.set_cons_zero, List.set_cons_succ]
      refine R_load (get_op rfl) (by rfl) (by rfl) 34 (.tmp 35) (by rfl) gp 64 (by rfl) L6 _ (fun V hV => HP2.out V hV) Tryd.underlying34 rfl S6.out ?_
      simp only [Act.put, List.setIfInBounds_toArray, List.set_cons_zero, List.set_cons_succ]
      refine R_loose (get_op rfl) (by rfl) (by rfl) _ _ (loose_build 55 5 (.const (.int .u8 6)) (.int .u8 6) (by rfl) (by rfl) (fun V hV => hV) (fun _ => by kernel_rfl)) ?_
      rintro _ ⟨g1, rfl⟩
      simp only [Act.put, List.setIfInBounds_toArray, List.set_cons_zero, List.set_cons_succ]
      refine R_call (get_op rfl) (by rfl) (by rfl) _ _ (.agg L6.toArray) (fun _ => by go_simp) (fun V hV => HL6.out g1 V hV.1 hV.2) ?_
      simp only [Act.put, List.setIfInBounds_toArray, List.set_cons_zero, List.set_cons_succ]
      refine R_eq (get_op rfl) (by rfl) (by rfl) .eql 34 _ (.tmp 36) (.tmp 38) (by rfl) L6.toArray L6.toArray (by rfl) (by rfl) (by kernel_rfl) (.bool true) (E6.out) ?_
      simp only [Act.put, List.setIfInBounds_toArray, List.set_cons_zero, List.set_cons_succ]
      refine R_value (get_op rfl) (by rfl) (by rfl) (.bool true) (fun _ _ => by go_simp) ?_
      simp only [Act.put, List.setIfInBounds_toArray, List.set_cons_zero, List.set_cons_succ]
      refine R_value (get_op rfl) (by rfl) (by rfl) (.bool true) (fun _ _ => by go_simp) ?_
      simp only [Act.put, List.setIfInBounds_toArray, List.set_cons_zero, List.set_cons_succ]
      refine R_value (get_op rfl) (by rfl) (by rfl) (.slice (some ⟨gp, 0, none⟩) 3 cp) (fun _ _ => by go_simp) ?_
      simp only [Act.put, List.setIfInBounds_toArray, List.set_cons_zero, List.set_cons_succ]
      refine R_value (get_op rfl) (by rfl) (by rfl) (.pointer (some ⟨gp, 0, none⟩)) (fun _ _ => by go_simp) ?_
      simp only [Act.put, List.setIfInBounds_toArray, List.set_cons_zero, List.set_cons_succ]
      refine R_load (get_op rfl) (by rfl) (by rfl) 34 (.tmp 43) (by rfl) gp 0 (by rfl) P0 _ (fun V hV => HP0.out V hV.1) Tryd.underlying34 rfl S0.out ?_
      simp only [Act.put, List.setIfInBounds_toArray, List.set_cons_zero, List.set_cons_succ]
      refine R_value (get_op rfl) (by rfl) (by rfl) (.slice (some ⟨gl, 0, none⟩) 7 c2) (fun _ _ => by go_simp) ?_
      simp only [Act.put, List.setIfInBounds_toArray, List.set_cons_zero, List.set_cons_succ]
      refine R_value (get_op rfl) (by rfl) (by rfl) (.slice (some ⟨gl, 0, none⟩) 4 c2) (fun _ _ => by go_simp) ?_
      simp only [Act.put, List.setIfInBounds_toArray, List.set_cons_zero, List.set_cons_succ]
      refine R_call (get_op rfl) (by rfl) (by rfl) _ _ (.agg P0.toArray) (fun _ => by go_simp) (fun V hV => HR4.out V hV.1) ?_
      simp only [Act.put, List.setIfInBounds_toArray, List.set_cons_zero, List.set_cons_succ]
      refine R_eq (get_op rfl) (by rfl) (by rfl) .eql 34 _ (.tmp 44) (.tmp 47) (by rfl) P0.toArray P0.toArray (by rfl) (by rfl) (by kernel_rfl) (.bool true) (E0.out) ?_
      simp only [Act.put, List.setIfInBounds_toArray, List.set_cons_zero, List.set_cons_succ]
      refine R_value (get_op rfl) (by rfl) (by rfl) (.bool true) (fun _ _ => by go_simp) ?_
      simp only [Act.put, List.setIfInBounds_toArray, List.set_cons_zero, List.set_cons_succ]
      refine R_value (get_op rfl) (by rfl) (by rfl) (.bool true) (fun _ _ => by go_simp) ?_
      simp only [Act.put, List.setIfInBounds_toArray, List.set_cons_zero, List.set_cons_succ]
      refine R_value (get_op rfl) (by rfl) (by rfl) (.pointer (some ⟨b, 0, none⟩)) (fun _ _ => by go_simp) ?_
      simp only [Act.put, List.setIfInBounds_toArray, List.set_cons_zero, List.set_cons_succ]
      refine R_call (get_op rfl) (by rfl) (by rfl) _ _ (.agg R7.toArray) (fun _ => by go_simp) (fun V hV => HFR.out V hV.1) ?_
      simp only [Act.put, List.setIfInBounds_toArray, List.set_cons_zero, List.set_cons_succ]
      refine R_value (get_op rfl) (by rfl) (by rfl) (.slice (some ⟨gl, 0, none⟩) 7 c2) (fun _ _ => by go_simp) ?_
      simp only [Act.put, List.setIfInBounds_toArray, List.set_cons_zero, List.set_cons_succ]
      refine R_call (get_op rfl) (by rfl) (by rfl) _ _ (.agg R7.toArray) (fun _ => by go_simp) (fun V hV => HR7.out V hV.1) ?_
      simp only [Act.put, List.setIfInBounds_toArray, List.set_cons_zero, List.set_cons_succ]
      refine R_eq (get_op rfl) (by rfl) (by rfl) .eql 34 _ (.tmp 52) (.tmp 54) (by rfl) R7.toArray R7.toArray (by rfl) (by rfl) (by kernel_rfl) (.bool true) (E7.out) ?_
      simp only [Act.put, List.setIfInBounds_toArray, List.set_cons_zero, List.set_cons_succ]
      refine R_value (get_op rfl) (by rfl) (by rfl) (.bool true) (fun _ _ => by go_simp) ?_
      simp only [Act.put, List.setIfInBounds_toArray, List.set_cons_zero, List.set_cons_succ]
      refine R_value (get_op rfl) (by rfl) (by rfl) (.bool true) (fun _ _ => by go_simp) ?_
      simp only [Act.put, List.setIfInBounds_toArray, List.set_cons_zero]
      refine R_nil ?_
      intro w10 hw10
      have hfin := FIN.out w10 hw10.1
      go_wp2
      go_ret
      exact ⟨rfl, hfin⟩
end Go.Proofs.YtnnhbgaeohdojaaDoor
