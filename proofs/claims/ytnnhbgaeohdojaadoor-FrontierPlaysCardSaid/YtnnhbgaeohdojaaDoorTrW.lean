/-
  The document's example of layer 3 holds: 'awake' returns true, and leaves all that was as it was.
-/
import Derived.Test.YtnnhbgaeohdojaaDoorTrF
import Derived.Test.YtnnhbgaeohdojaaDoorTrH
import Derived.Test.YtnnhbgaeohdojaaDoorWalkR
import Derived.Test.YtnnhbgaeohdojaaDoorShaW
namespace Go.Proofs.YtnnhbgaeohdojaaDoor
open Go.RowKit Go.BigFrame
set_option linter.unusedVariables false

theorem root_two (a b : List UInt8) : Tr.root [a, b] = Tr.node (Tr.leaf a) (Tr.leaf b) := by
  rw [Tr.root_more [a, b] (by show 2 ≤ 2; omega)]
  have e : Tr.split [a, b].length = 1 := by show Tr.split 2 = 1; decide
  rw [e]
  show Tr.node (Tr.root [a]) (Tr.root [b]) = _
  rw [Tr.root_one, Tr.root_one]
theorem root_three (a b c : List UInt8) : Tr.root [a, b, c] = Tr.node (Tr.node (Tr.leaf a) (Tr.leaf b)) (Tr.leaf c) := by
  rw [Tr.root_more [a, b, c] (by show 2 ≤ 3; omega)]
  have e : Tr.split [a, b, c].length = 2 := by show Tr.split 3 = 2; decide
  rw [e]
  show Tr.node (Tr.root [a, b]) (Tr.root [c]) = _
  rw [Tr.root_one, root_two]
theorem path_three (a b c : List UInt8) : Tr.path [a, b, c] 2 = [Tr.node (Tr.leaf a) (Tr.leaf b)] := by
  rw [Tr.path_more [a, b, c] 2 (by show 2 ≤ 3; omega)]
  have e : Tr.split [a, b, c].length = 2 := by show Tr.split 3 = 2; decide
  rw [e, if_neg (by omega)]
  show Tr.path [c] 0 ++ [Tr.root [a, b]] = _
  rw [Tr.path_few _ _ (by show 1 < 2; omega), root_two]
  rfl
theorem steps_32 : Tr.steps 3 2 = 1 := by decide
theorem steps_31 : Tr.steps 3 1 = 2 := by decide
theorem verify_32 (a b c : List UInt8) : Tr.verify (Tr.root [a, b, c]) 3 2 c [Tr.node (Tr.leaf a) (Tr.leaf b)] = 0 := by
  unfold Tr.verify
  have h := Tr.path_made [a, b, c] 2 (by show 2 < 3; omega) (by show 3 ≤ _; omega)
  rw [path_three] at h
  have e : [a, b, c].getD 2 [] = c := rfl
  rw [e] at h
  rw [if_neg (by omega), if_pos (by rw [steps_32]; rfl)]
  exact if_pos h
theorem verify_31 (r x c : List UInt8) : Tr.verify r 3 1 c [x] = 20 := by
  unfold Tr.verify
  rw [if_neg (by omega), if_neg (by rw [steps_31]; show ¬ 1 = 2; omega)]
theorem all_three {α : Type} {p : α → Prop} {a b c : α} (ha : p a) (hb : p b) (hc : p c) : ∀ x ∈ [a, b, c], p x := by
  intro x hx
  simp only [List.mem_cons, List.not_mem_nil, or_false] at hx
  rcases hx with rfl | rfl | rfl <;> assumption
theorem all_one {α : Type} {p : α → Prop} {a : α} (ha : p a) : ∀ x ∈ [a], p x := by
  intro x hx
  rw [List.mem_singleton] at hx
  exact hx ▸ ha
theorem flat_at : ∀ (ps : List (List UInt8)) (i : Nat) (p : List UInt8) (j : Nat) (c : Value), (∀ q ∈ ps, q.length = 32) → ps[i]? = some p → (bvs p)[j]? = some c → (flat ps)[i * 32 + j]? = some c
  | [], i, p, j, c, _, h, _ => by simp at h
  | q :: ps, 0, p, j, c, hl, h, hj => by
    have e : q = p := by simpa using h
    subst e
    have hlt := (List.getElem?_eq_some_iff.1 hj).1
    unfold flat
    rw [List.flatMap_cons, Nat.zero_mul, Nat.zero_add, List.getElem?_append_left hlt]
    exact hj
  | q :: ps, i + 1, p, j, c, hl, h, hj => by
    have h32 : (bvs q).length = 32 := by rw [bvs_length]; exact hl q (by simp)
    unfold flat
    rw [List.flatMap_cons, List.getElem?_append_right (by rw [h32]; omega), h32]
    have := flat_at ps i p j c (fun x hx => hl x (List.mem_cons_of_mem _ hx)) (by simpa using h) hj
    rw [show (i + 1) * 32 + j - 32 = i * 32 + j by omega]
    exact this
/-- A row of the call's own, of hashes, is a path. -/
theorem PathAt.of_own {w : World} {base n : Nat} {A : Option Addr} {l c : Nat} {v : Value} {e : TypeId} {ps : List (List UInt8)} (h : w.ownsRow base e 32 v n (flat ps)) (hl : ∀ p ∈ ps, p.length = 32) (hv : v = .slice A l c := by rfl) : PathAt w A ps := by
  refine ⟨hl, fun i p hp => ?_⟩
  rcases h.2 with ⟨rfl, rfl⟩ | ⟨g, cap, cur, rfl, _⟩
  · have h0 := h.1
    rw [Nat.zero_mul] at h0
    have h1 := flat_length ps hl
    have h2 := (List.getElem?_eq_some_iff.1 hp).1
    omega
  · injection hv with h1
    subst h1
    refine ⟨g, 0, rfl, fun j u hu => ?_⟩
    have hc := h.cells (g := g) rfl (i * 32 + j) u (flat_at ps i p j u hl hp hu)
    rw [add_plain] at hc
    rw [Nat.zero_add]
    rwa [Nat.zero_add] at hc
structure IsArr (l : List UInt8) (R : Array Value) : Prop where
  out : (bvs l).toArray = R
set_option maxRecDepth 100000 in
set_option maxHeartbeats 1000000 in
theorem awake3_any (w : World) (hT : Tabs w) :
    Calls Tryd.prog 11 #[] w fun e w' => e = .returned (.bool true) ∧ Keeps (fun _ => False) w w' := by
  obtain ⟨W1, hW1⟩ : ∃ W, w.alloc (.cells #[.int .u8 97] 5 (1, 2)) = W := ⟨_, rfl⟩
  obtain ⟨W2, hW2⟩ : ∃ W, W1.alloc (.cells #[.int .u8 98] 5 (1, 2)) = W := ⟨_, rfl⟩
  obtain ⟨W3, hW3⟩ : ∃ W, W2.alloc (.cells #[.int .u8 99] 5 (1, 2)) = W := ⟨_, rfl⟩
  obtain ⟨W4, hW4⟩ : ∃ W, W3.alloc (.cells #[.slice (some ⟨w.heap.size, 0, none⟩) 1 1, .slice (some ⟨W1.heap.size, 0, none⟩) 1 1, .slice (some ⟨W2.heap.size, 0, none⟩) 1 1] 55) = W := ⟨_, rfl⟩
  have k1 : Keeps (fun _ => False) w W1 := by rw [← hW1]; exact (Keeps.refl _ _).alloc _
  have k2 : Keeps (fun _ => False) W1 W2 := by rw [← hW2]; exact (Keeps.refl _ _).alloc _
  have k3 : Keeps (fun _ => False) W2 W3 := by rw [← hW3]; exact (Keeps.refl _ _).alloc _
  have k4 : Keeps (fun _ => False) W3 W4 := by rw [← hW4]; exact (Keeps.refl _ _).alloc _
  have r1 : Src W1 (some ⟨w.heap.size, 0, none⟩) (bvs [97]) := by rw [← hW1]; exact src_blk (fr := (1, 2)) (t := 5) (heap_alloc_new w _)
  have r2 : Src W2 (some ⟨W1.heap.size, 0, none⟩) (bvs [98]) := by rw [← hW2]; exact src_blk (fr := (1, 2)) (t := 5) (heap_alloc_new W1 _)
  have r3 : Src W3 (some ⟨W2.heap.size, 0, none⟩) (bvs [99]) := by rw [← hW3]; exact src_blk (fr := (1, 2)) (t := 5) (heap_alloc_new W2 _)
  have r4 : Row W4 W3.heap.size 55 [.slice (some ⟨w.heap.size, 0, none⟩) 1 1, .slice (some ⟨W1.heap.size, 0, none⟩) 1 1, .slice (some ⟨W2.heap.size, 0, none⟩) 1 1] := by rw [← hW4]; exact heap_alloc_new W3 _
  have hrows : RowsAt W4 (some ⟨W3.heap.size, 0, none⟩) [(some ⟨w.heap.size, 0, none⟩, 1, [97]), (some ⟨W1.heap.size, 0, none⟩, 1, [98]), (some ⟨W2.heap.size, 0, none⟩, 1, [99])] :=
    rowsAt_three (by rw [add_plain]; exact r4.cell 0) (by rw [add_plain]; exact r4.cell 1) (by rw [add_plain]; exact r4.cell 2) (((r1.keeps k2 (fun _ _ _ => id)).keeps k3 (fun _ _ _ => id)).keeps k4 (fun _ _ _ => id)) ((r2.keeps k3 (fun _ _ _ => id)).keeps k4 (fun _ _ _ => id)) (r3.keeps k4 (fun _ _ _ => id))
      ⟨Nat.le_refl _, by show (1 : Nat) ≤ _; omega⟩ ⟨Nat.le_refl _, by show (1 : Nat) ≤ _; omega⟩ ⟨Nat.le_refl _, by show (1 : Nat) ≤ _; omega⟩
  have kk : Keeps (fun _ => False) w W4 := ((k1.trans k2).trans k3).trans k4
  have hT4 := hT.keeps kk id id
  obtain ⟨rs, hrs⟩ : ∃ rs : List RowOf, [(some ⟨w.heap.size, 0, none⟩, 1, [97]), (some ⟨W1.heap.size, 0, none⟩, 1, [98]), (some ⟨W2.heap.size, 0, none⟩, 1, [99])] = rs := ⟨_, rfl⟩
  have hents : ents rs = [[97], [98], [99]] := by rw [← hrs]; rfl
  have hlen3 : rs.length = 3 := by rw [← hrs]; rfl
  have hshort : ∀ r ∈ rs, r.2.2.length ≤ 1000 := by rw [← hrs]; exact all_three (p := fun r : RowOf => r.2.2.length ≤ 1000) (by simp) (by simp) (by simp)
  rw [hrs] at hrows
  have hpath := path_in ⟨W3.heap.size, 0, none⟩ 3 rs 2 W4 hT4 hrows (by omega) (by omega) (by omega) hshort (by omega)
  rw [hents, path_three, hlen3] at hpath
  have hroot : ∀ V, Keeps (fun _ => False) W4 V → Calls Tryd.prog 16 #[.slice (some ⟨W3.heap.size, 0, none⟩) 3 3] V fun e w' => e = .returned (.agg (bvs (Tr.root [[97], [98], [99]])).toArray) ∧ Keeps (fun _ => False) V w' := fun V hk => by
    have h := root_any (some ⟨W3.heap.size, 0, none⟩) 3 rs V (hT4.keeps hk id id) (hrows.keeps hk (fun _ _ => id)) (by omega) (by omega) hshort
    rw [hents, hlen3] at h
    exact h
  obtain ⟨x, hx⟩ : ∃ x, Tr.node (Tr.leaf [97]) (Tr.leaf [98]) = x := ⟨_, rfl⟩
  have hx32 : x.length = 32 := by rw [← hx]; rfl
  have hr3 := root_three [97] [98] [99]
  have hv2 := verify_32 [97] [98] [99]
  rw [hx] at hpath hr3 hv2
  have hnd1 := fun V (hk : Keeps (fun _ => False) W4 V) => node_any (Tr.leaf [97]) (Tr.leaf [98]) V (hT4.keeps hk id id) (Tr.leaf_length _) (Tr.leaf_length _)
  have hla := fun (b : UInt8) (A : Option Addr) V (hk : Keeps (fun _ => False) W4 V) (hs : Src V A (bvs [b])) => leaf_any A 1 [b] V (hT4.keeps hk id id) hs (Nat.le_refl _) (by show (1 : Nat) ≤ _; omega) (by simp)
  have hnx : Sh.sha (1 :: (Tr.leaf [97] ++ Tr.leaf [98])) = x := hx
  obtain ⟨la, hla1⟩ : ∃ l, Tr.leaf [97] = l := ⟨_, rfl⟩
  obtain ⟨lb, hlb1⟩ : ∃ l, Tr.leaf [98] = l := ⟨_, rfl⟩
  obtain ⟨lc, hlc1⟩ : ∃ l, Tr.leaf [99] = l := ⟨_, rfl⟩
  have hlc32 : lc.length = 32 := by rw [← hlc1]; rfl
  have hnd2 := fun V (hk : Keeps (fun _ => False) W4 V) => node_any x lc V (hT4.keeps hk id id) hx32 hlc32
  have hl97 : ∀ A V, Keeps (fun _ => False) W4 V → Src V A (bvs [97]) → Calls Tryd.prog 43 #[.slice A 1 1] V fun e w' => e = .returned (.agg (bvs la).toArray) ∧ Keeps (fun _ => False) V w' := fun A V hk hs => by rw [← hla1]; exact hla 97 A V hk hs
  have hl98 : ∀ A V, Keeps (fun _ => False) W4 V → Src V A (bvs [98]) → Calls Tryd.prog 43 #[.slice A 1 1] V fun e w' => e = .returned (.agg (bvs lb).toArray) ∧ Keeps (fun _ => False) V w' := fun A V hk hs => by rw [← hlb1]; exact hla 98 A V hk hs
  have hl99 : ∀ A V, Keeps (fun _ => False) W4 V → Src V A (bvs [99]) → Calls Tryd.prog 43 #[.slice A 1 1] V fun e w' => e = .returned (.agg (bvs lc).toArray) ∧ Keeps (fun _ => False) V w' := fun A V hk hs => by rw [← hlc1]; exact hla 99 A V hk hs
  rw [hla1, hlb1] at hnd1 hnx
  rw [hnx] at hnd1
  rw [hlc1] at hr3
  obtain ⟨rt, hrt⟩ : ∃ r, Tr.root [[97], [98], [99]] = r := ⟨_, rfl⟩
  have hrt32 : rt.length = 32 := by rw [← hrt]; exact Tr.root_length _
  rw [hrt] at hroot hr3 hv2
  have hnr : Sh.sha (1 :: (x ++ lc)) = rt := hr3.symm
  rw [hnr] at hnd2
  have hver := fun (n i : Nat) (Ae A : Option Addr) (cp : Nat) V (hk : Keeps (fun _ => False) W4 V) (hs : Src V Ae (bvs [99])) (hp : PathAt V A [x]) (hc1 : 1 ≤ cp) (hc2 : cp ≤ 9223372036854775807) (hn : n ≤ 18446744073709551615) =>
    verify_any rt n i Ae A 1 cp [99] [x] V (hT4.keeps hk id id) hrt32 hs (Nat.le_refl _) (by show (1 : Nat) ≤ _; omega) (by simp) hp hc1 hc2 hn
  have hv1 := verify_31 rt x [99]
  have hroot0 := fun V (hk : Keeps (fun _ => False) W4 V) => root_none none 0 V (hT4.keeps hk id id)
  have hof0 := fun V (hk : Keeps (fun _ => False) W4 V) => of_any none 0 [] V (hT4.keeps hk id id) (RowsAt.nil _ _) (by simp) (by simp [bytesOf])
  have e0 : bytesOf [] = [] := rfl
  rw [Tr.root_nil] at hroot0
  rw [e0] at hof0
  obtain ⟨e, he⟩ : ∃ e, Sh.sha [] = e := ⟨_, rfl⟩
  have he32 : e.length = 32 := by rw [← he]; rfl
  rw [he] at hroot0 hof0
  obtain ⟨i0, hi0, _⟩ := info_parts info_u8t
  have heq : ∀ l : List UInt8, l.length = 32 → ∀ W : World, (binOp .eql 34 (.agg (bvs l).toArray) (.agg (bvs l).toArray)).run Tryd.prog W = .ok (.bool true) W := fun l hl W => by
    rw [run_eql_bytes W 34 5 32 Tryd.underlying34 Tryd.underlying5 hi0 (by kernel_rfl) (by kernel_rfl) l l hl hl]
    simp
  have hsp5 : ∀ V, Calls Tryd.prog 19 #[.int .u64 5] V fun e w' => e = .returned (.int .u64 4) ∧ Keeps (fun _ => False) V w' := fun V => (split_any 5 V (by omega)).mono fun e w' ⟨h1, h2⟩ => ⟨by rw [h1]; rfl, by rw [h2]; exact Keeps.refl _ _⟩
  have hsp4 : ∀ V, Calls Tryd.prog 19 #[.int .u64 4] V fun e w' => e = .returned (.int .u64 2) ∧ Keeps (fun _ => False) V w' := fun V => (split_any 4 V (by omega)).mono fun e w' ⟨h1, h2⟩ => ⟨by rw [h1]; rfl, by rw [h2]; exact Keeps.refl _ _⟩
  have HEX := Lib.hid (heq x hx32)
  have HER := Lib.hid (heq rt hrt32)
  have HEE := Lib.hid (heq e he32)
  have HXS : Hid ((Tryd.prog.info? 34).map (·.size) = some (bvs x).length) := by show _ = _; rw [bvs_length, hx32]; exact size_hash'
  have HX32 := Lib.hid hx32
  have HPATH := Lib.hid hpath
  have HROOT := Lib.hid hroot
  have HND1 := Lib.hid hnd1
  have HND2 := Lib.hid hnd2
  have HL97 := Lib.hid hl97
  have HL98 := Lib.hid hl98
  have HL99 := Lib.hid hl99
  have HVER := Lib.hid hver
  have HV1 := Lib.hid hv1
  have HV2 := Lib.hid hv2
  have HR0 := Lib.hid hroot0
  have HO0 := Lib.hid hof0
  have HSP5 := Lib.hid hsp5
  have HSP4 := Lib.hid hsp4
  have KK := Lib.hid kk
  have HRP := Lib.hid hrows
  obtain ⟨gl, hgl⟩ : ∃ g, W3.heap.size = g := ⟨_, rfl⟩
  rw [hgl] at HPATH HROOT
  have hz : ∀ w : World, (zeroValue 34).run Tryd.prog w = .ok (.agg (bvs (List.replicate 32 0)).toArray) w := fun _ => by kernel_rfl
  clear heq hx32 hpath hroot hnd1 hnd2 hl97 hl98 hl99 hla hver hv1 hv2 hroot0 hof0 hsp5 hsp4 kk hrows hT4 hT hents hlen3 hshort hrs r1 r2 r3 r4 k1 k2 k3 k4 hx hr3 hnx hla1 hlb1 hlc1 hlc32 hrt hrt32 hnr e0 he he32 hi0
  have kc := fun (w : World) (C : Array Value) (n c : Nat) => Lib.run_convert_bytes_const (P := Tryd.prog) w 55 5 C n c Tryd.underlying55 Tryd.underlying5
  go_enter Tryd.func11, Tryd.ntmps11
  go_wp2_with fail
  refine HPATH.out.mono ?_
  rintro e5 w5 ⟨v, rfl, ho5, k5⟩
  obtain ⟨gp, cp, rfl, hcp⟩ : ∃ gp cp, v = .slice (some ⟨gp, 0, none⟩) 1 cp ∧ 1 ≤ cp ∧ cp ≤ 9223372036854775807 := by
    rcases ho5.2 with ⟨_, h⟩ | ⟨g, cap, cur, rfl, _, _, h1, h2, _⟩
    · cases h
    · exact ⟨g, cap, rfl, h1, h2⟩
  have hp5 : PathAt w5 (some ⟨gp, 0, none⟩) [x] := PathAt.of_own ho5 (all_one (p := fun q : List UInt8 => q.length = 32) HX32.out)
  have P5 := Lib.hid hp5
  have K5 := Lib.hid k5
  clear HPATH ho5 k5 hp5
  obtain ⟨V1, hV1⟩ : ∃ V, w5.alloc (.cells #[.int .u8 97] 5 (1, 2)) = V := ⟨_, rfl⟩
  have kv1 : Keeps (fun _ => False) w5 V1 := by rw [← hV1]; exact (Keeps.refl _ _).alloc _
  have s1 : Src V1 (some ⟨w5.heap.size, 0, none⟩) (bvs [97]) := by rw [← hV1]; exact src_blk (fr := (1, 2)) (t := 5) (heap_alloc_new w5 _)
  have HC1 := Lib.hid (HL97.out _ V1 (K5.out.trans kv1) s1)
  have KV1 := Lib.hid kv1
  clear kv1 s1 HL97
  go_wp2_with fail
  refine HC1.out.mono ?_
  rintro e6 w6 ⟨rfl, k6⟩
  have K6 := Lib.hid ((K5.out.trans KV1.out).trans k6)
  have K56 := Lib.hid (KV1.out.trans k6)
  clear HC1 k6 KV1 hV1
  obtain ⟨V2, hV2⟩ : ∃ V, w6.alloc (.cells #[.int .u8 98] 5 (1, 2)) = V := ⟨_, rfl⟩
  have kv2 : Keeps (fun _ => False) w6 V2 := by rw [← hV2]; exact (Keeps.refl _ _).alloc _
  have s2 : Src V2 (some ⟨w6.heap.size, 0, none⟩) (bvs [98]) := by rw [← hV2]; exact src_blk (fr := (1, 2)) (t := 5) (heap_alloc_new w6 _)
  have HC2 := Lib.hid (HL98.out _ V2 (K6.out.trans kv2) s2)
  have KV2 := Lib.hid kv2
  clear kv2 s2 HL98
  go_wp2_with fail
  refine HC2.out.mono ?_
  rintro e7 w7 ⟨rfl, k7⟩
  have K7 := Lib.hid ((K6.out.trans KV2.out).trans k7)
  have K57 := Lib.hid ((K56.out.trans KV2.out).trans k7)
  clear HC2 k7 KV2 hV2 K56
  go_wp2_with fail
  refine (HND1.out w7 K7.out).mono ?_
  rintro e8 w8 ⟨rfl, k8⟩
  have K8 := Lib.hid (K7.out.trans k8)
  have K58 := Lib.hid (K57.out.trans k8)
  clear k8 K7 K57 HND1
  have HZ0 : Hid ((w8.alloc (.cells (bvs (List.replicate 32 0)).toArray 34)).heap[w8.heap.size]? = some (.cells (bvs (List.replicate 32 0)).toArray 34 (0, 0))) := heap_alloc_new w8 _
  have HXZ : Hid ((Tryd.prog.info? 34).map (·.size) = some (bvs x).toArray.size) := by show _ = _; rw [List.size_toArray, bvs_length, HX32.out]; exact size_hash'
  have HZS : Hid ((bvs (List.replicate 32 0)).toArray.size = (bvs x).toArray.size) := by show _ = _; rw [List.size_toArray, bvs_length, List.size_toArray, bvs_length, HX32.out]; rfl
  go_wp2_with (refine wpList_store_abs (by rfl) 34 (.tmp 4) (.tmp 23) (by rfl) w8.heap.size (bvs x).toArray (by rfl) (by rfl) 34 (bvs (List.replicate 32 0)).toArray HZ0.out HXZ.out HZS.out (bvs_all _) ?_; intro w9 HH9 k9)
  have hk9 : Keeps (fun _ => False) w8 w9 := ((Keeps.refl _ w8).alloc _).trans' k9 (fun k hk e => by omega)
  have K9 := Lib.hid (K8.out.trans hk9)
  have K59 := Lib.hid (K58.out.trans hk9)
  clear hk9 K8 K58 HZ0 HXZ HZS
  have LK : ∀ V, Later w9 V → Keeps (fun _ => False) W4 V := fun V h => K9.out.trans h.out
  have madeSrc : ∀ g V, Made w9 5 #[.int .u8 99] (.slice (some ⟨g, 0, none⟩) 1 1) V → Src V (some ⟨g, 0, none⟩) (bvs [99]) := fun g V h => by
    obtain ⟨g', fr, _, hv, hg⟩ := h
    injection hv with hv
    injection hv with hv
    injection hv with hv
    subst hv
    exact src_blk (fr := fr) (t := 5) hg
  obtain ⟨X, hX⟩ : ∃ X, bvs x = X := ⟨_, rfl⟩
  have hx9 : w9.heap[w8.heap.size]? = some (.cells X.toArray 34 (0, 0)) := by rw [← hX]; exact HH9.out
  have hxr : ∀ V, Later w9 V → V.rangeAt w8.heap.size 0 X := fun V hV j u hu => by
    have h : Row V w8.heap.size 34 X := (hV.out.block _ (Array.getElem?_eq_some_iff.1 hx9).1 id).trans hx9
    rw [h.cell, Nat.zero_add]
    exact hu
  have hpr : ∀ V, Later w9 V → V.rangeAt gp 0 X := fun V hV => by
    obtain ⟨b, o, hb, hr⟩ := (P5.out.keeps (K59.out.trans hV.out) (fun _ _ => id)).lie 0 x rfl
    injection hb with hb
    injection hb with hb1 hb2
    subst hb1 hb2
    rw [← hX]
    simpa using hr
  have hpp : ∀ V, Later w9 V → PathAt V (some ⟨gp, 0, none⟩) [x] := fun V hV => P5.out.keeps (K59.out.trans hV.out) (fun _ _ => id)
  obtain ⟨E, hE⟩ : ∃ E, (bvs e).toArray = E := ⟨_, rfl⟩
  obtain ⟨RT, hRT⟩ : ∃ E, (bvs rt).toArray = E := ⟨_, rfl⟩
  obtain ⟨LC, hLC⟩ : ∃ E, (bvs lc).toArray = E := ⟨_, rfl⟩
  rw [hE] at HR0 HO0 HEE
  rw [hRT] at HROOT HER HND2 HVER
  rw [hLC] at HL99 HND2
  rw [hX] at HND2 HEX HXS
  have HR0 := Lib.hid (fun V (h : Later w9 V) => HR0.out V (LK V h))
  have HO0 : Hid (∀ V, Later w9 V → Calls Tryd.prog 40 #[.slice none 0 0] V fun e w' => e = .returned (.agg E) ∧ Keeps (fun _ => False) V w') := Lib.hid (fun V h => HO0.out V (LK V h))
  have HRT := Lib.hid (fun V (h : Later w9 V) => HROOT.out V (LK V h))
  have HLC := Lib.hid (fun g V (h : Later w9 V) hm => HL99.out (some ⟨g, 0, none⟩) V (LK V h) (madeSrc g V hm))
  have HND := Lib.hid (fun V (h : Later w9 V) => HND2.out V (LK V h))
  have HVb : Hid (∀ g V, Later w9 V → Made w9 5 #[.int .u8 99] (.slice (some ⟨g, 0, none⟩) 1 1) V → Calls Tryd.prog 44 #[.agg RT, .int .u64 3, .int .u64 2, .slice (some ⟨g, 0, none⟩) 1 1, .slice (some ⟨gp, 0, none⟩) 1 cp] V fun e w' => e = .returned (.int .i64 0) ∧ Keeps (fun _ => False) V w') := fun g V h hm => by
    have := HVER.out 3 2 (some ⟨g, 0, none⟩) (some ⟨gp, 0, none⟩) cp V (LK V h) (madeSrc g V hm) (hpp V h) hcp.1 hcp.2 (by omega)
    rw [HV2.out] at this
    exact this
  have HVa : Hid (∀ g V, Later w9 V → Made w9 5 #[.int .u8 99] (.slice (some ⟨g, 0, none⟩) 1 1) V → Calls Tryd.prog 44 #[.agg RT, .int .u64 3, .int .u64 1, .slice (some ⟨g, 0, none⟩) 1 1, .slice (some ⟨gp, 0, none⟩) 1 cp] V fun e w' => e = .returned (.int .i64 20) ∧ Keeps (fun _ => False) V w') := fun g V h hm => by
    have := HVER.out 3 1 (some ⟨g, 0, none⟩) (some ⟨gp, 0, none⟩) cp V (LK V h) (madeSrc g V hm) (hpp V h) hcp.1 hcp.2 (by omega)
    rw [HV1.out] at this
    exact this
  have HX := Lib.hid hxr
  have HP := Lib.hid hpr
  have FIN : Hid (∀ V, Later w9 V → Keeps (fun _ => False) w V) := fun V h => KK.out.trans (LK V h)
  clear hxr hpr hpp madeSrc LK HROOT HL99 HND2 HVER HV1 HV2 K9 K59 P5 K5 K6 HH9 k9 hx9 hX hE hRT hLC KK HRP hW1 hW2 hW3 hW4
  go_wp2_with fail
  refine wp_region_loose [15, 16, 40, 41, 49, 50] [0, 1, 2, 3, 4, 5, 6, 7, 8, 9, 10, 11, 12, 13, 14, 15, 16, 17, 18, 19, 20, 21, 22, 23, 24, 25, 26, 27, 28, 29, 30, 31, 32, 33, 34, 35, 36, 37, 38, 39, 42, 40, 41, 43, 44, 45, 46, 47, 48, 51, 49, 50, 52, 53, 54, 55] (by kernel_rfl) (by kernel_rfl) ?_
  refine R_call (get_op rfl) (by rfl) (by rfl) 19 #[.int .u64 5] (.int .u64 4) (fun _ => by go_simp) (fun V _ => HSP5.out V) ?_
  simp only [Act.put, List.setIfInBounds_toArray, List.set_cons_zero, List.set_cons_succ]
  refine R_value (get_op rfl) (by rfl) (by rfl) (.bool true) (fun _ _ => by go_simp) ?_
  simp only [Act.put, List.setIfInBounds_toArray, List.set_cons_zero, List.set_cons_succ]
  refine R_value (get_op rfl) (by rfl) (by rfl) (.bool true) (fun _ _ => by go_simp) ?_
  simp only [Act.put, List.setIfInBounds_toArray, List.set_cons_zero, List.set_cons_succ]
  refine R_call (get_op rfl) (by rfl) (by rfl) 19 #[.int .u64 4] (.int .u64 2) (fun _ => by go_simp) (fun V _ => HSP4.out V) ?_
  simp only [Act.put, List.setIfInBounds_toArray, List.set_cons_zero, List.set_cons_succ]
  refine R_value (get_op rfl) (by rfl) (by rfl) (.bool true) (fun _ _ => by go_simp) ?_
  simp only [Act.put, List.setIfInBounds_toArray, List.set_cons_zero, List.set_cons_succ]
  refine R_value (get_op rfl) (by rfl) (by rfl) (.bool true) (fun _ _ => by go_simp) ?_
  simp only [Act.put, List.setIfInBounds_toArray, List.set_cons_zero, List.set_cons_succ]
  refine R_value (get_op rfl) (by rfl) (by rfl) (.bool true) (fun _ _ => by go_simp) ?_
  simp only [Act.put, List.setIfInBounds_toArray, List.set_cons_zero, List.set_cons_succ]
  refine R_call (get_op rfl) (by rfl) (by rfl) 16 #[.slice none 0 0] (.agg E) (fun _ => by go_simp) (fun V hV => HR0.out V hV) ?_
  simp only [Act.put, List.setIfInBounds_toArray, List.set_cons_zero, List.set_cons_succ]
  refine R_call (get_op rfl) (by rfl) (by rfl) 40 #[.slice none 0 0] (.agg E) (fun _ => by go_simp) (fun V hV => HO0.out V hV) ?_
  simp only [Act.put, List.setIfInBounds_toArray, List.set_cons_zero, List.set_cons_succ]
  refine R_eq (get_op rfl) (by rfl) (by rfl) .eql 34 _ (.tmp 31) (.tmp 32) (by rfl) E E (by rfl) (by rfl) (by kernel_rfl) (.bool true) HEE.out ?_
  simp only [Act.put, List.setIfInBounds_toArray, List.set_cons_zero, List.set_cons_succ]
  refine R_value (get_op rfl) (by rfl) (by rfl) (.bool true) (fun _ _ => by go_simp) ?_
  simp only [Act.put, List.setIfInBounds_toArray, List.set_cons_zero, List.set_cons_succ]
  refine R_value (get_op rfl) (by rfl) (by rfl) (.bool true) (fun _ _ => by go_simp) ?_
  simp only [Act.put, List.setIfInBounds_toArray, List.set_cons_zero, List.set_cons_succ]
  refine R_value (get_op rfl) (by rfl) (by rfl) (.slice (some ⟨gl, 0, none⟩) 3 3) (fun _ _ => by go_simp) ?_
  simp only [Act.put, List.setIfInBounds_toArray, List.set_cons_zero, List.set_cons_succ]
  refine R_call (get_op rfl) (by rfl) (by rfl) 16 #[(.slice (some ⟨gl, 0, none⟩) 3 3)] (.agg RT) (fun _ => by go_simp) (fun V hV => HRT.out V hV) ?_
  simp only [Act.put, List.setIfInBounds_toArray, List.set_cons_zero, List.set_cons_succ]
  refine R_load (get_op rfl) (by rfl) (by rfl) 34 (.tmp 4) (by rfl) w8.heap.size 0 (by rfl) X _ (fun V hV => HX.out V hV) Tryd.underlying34 rfl HXS.out ?_
  simp only [Act.put, List.setIfInBounds_toArray, List.set_cons_zero, List.set_cons_succ]
  refine R_loose (get_op rfl) (by rfl) (by rfl) _ _ (loose_build 55 5 (.const (.int .u8 99)) (.int .u8 99) (by rfl) (by rfl) (fun V hV => hV) (fun _ => by kernel_rfl)) ?_
  rintro _ ⟨g1, rfl⟩
  simp only [Act.put, List.setIfInBounds_toArray, List.set_cons_zero, List.set_cons_succ]
  refine R_loose (get_op rfl) (by rfl) (by rfl) _ _ (loose_conv 55 5 (.tmp 39) g1 #[.int .u8 99] (by rfl) (by rfl) (fun V hV => ⟨hV.1, hV.2⟩) Tryd.underlying55 Tryd.underlying5) ?_
  rintro _ rfl
  simp only [Act.put, List.setIfInBounds_toArray, List.set_cons_zero, List.set_cons_succ]
  refine R_call (get_op rfl) (by rfl) (by rfl) 43 #[(.slice (some ⟨g1, 0, none⟩) 1 1)] (.agg LC) (fun _ => by go_simp) (fun V hV => HLC.out g1 V hV.1.1 hV.1.2) ?_
  simp only [Act.put, List.setIfInBounds_toArray, List.set_cons_zero, List.set_cons_succ]
  refine R_call (get_op rfl) (by rfl) (by rfl) 42 #[.agg X.toArray, .agg LC] (.agg RT) (fun _ => by go_simp) (fun V hV => HND.out V hV.1.1) ?_
  simp only [Act.put, List.setIfInBounds_toArray, List.set_cons_zero, List.set_cons_succ]
  refine R_eq (get_op rfl) (by rfl) (by rfl) .eql 34 _ (.tmp 37) (.tmp 42) (by rfl) RT RT (by rfl) (by rfl) (by kernel_rfl) (.bool true) HER.out ?_
  simp only [Act.put, List.setIfInBounds_toArray, List.set_cons_zero, List.set_cons_succ]
  refine R_value (get_op rfl) (by rfl) (by rfl) (.bool true) (fun _ _ => by go_simp) ?_
  simp only [Act.put, List.setIfInBounds_toArray, List.set_cons_zero, List.set_cons_succ]
  refine R_value (get_op rfl) (by rfl) (by rfl) (.bool true) (fun _ _ => by go_simp) ?_
  simp only [Act.put, List.setIfInBounds_toArray, List.set_cons_zero, List.set_cons_succ]
  refine R_value (get_op rfl) (by rfl) (by rfl) (.int .i64 0) (fun _ _ => by go_simp) ?_
  simp only [Act.put, List.setIfInBounds_toArray, List.set_cons_zero, List.set_cons_succ]
  refine R_value (get_op rfl) (by rfl) (by rfl) (.bool true) (fun _ _ => by go_simp) ?_
  simp only [Act.put, List.setIfInBounds_toArray, List.set_cons_zero, List.set_cons_succ]
  refine R_value (get_op rfl) (by rfl) (by rfl) (.bool true) (fun _ _ => by go_simp) ?_
  simp only [Act.put, List.setIfInBounds_toArray, List.set_cons_zero, List.set_cons_succ]
  refine R_value (get_op rfl) (by rfl) (by rfl) (.bool true) (fun _ _ => by go_simp) ?_
  simp only [Act.put, List.setIfInBounds_toArray, List.set_cons_zero, List.set_cons_succ]
  refine R_value (get_op rfl) (by rfl) (by rfl) (.slice (some ⟨gp, 0, none⟩) 1 cp) (fun _ _ => by go_simp) ?_
  simp only [Act.put, List.setIfInBounds_toArray, List.set_cons_zero, List.set_cons_succ]
  refine R_value (get_op rfl) (by rfl) (by rfl) (.int .i64 1) (fun _ _ => by go_simp) ?_
  simp only [Act.put, List.setIfInBounds_toArray, List.set_cons_zero, List.set_cons_succ]
  refine R_value (get_op rfl) (by rfl) (by rfl) (.bool true) (fun _ _ => by go_simp) ?_
  simp only [Act.put, List.setIfInBounds_toArray, List.set_cons_zero, List.set_cons_succ]
  refine R_value (get_op rfl) (by rfl) (by rfl) (.bool true) (fun _ _ => by go_simp) ?_
  simp only [Act.put, List.setIfInBounds_toArray, List.set_cons_zero, List.set_cons_succ]
  refine R_value (get_op rfl) (by rfl) (by rfl) (.bool true) (fun _ _ => by go_simp) ?_
  simp only [Act.put, List.setIfInBounds_toArray, List.set_cons_zero, List.set_cons_succ]
  refine R_value (get_op rfl) (by rfl) (by rfl) (.slice (some ⟨gp, 0, none⟩) 1 cp) (fun _ _ => by go_simp) ?_
  simp only [Act.put, List.setIfInBounds_toArray, List.set_cons_zero, List.set_cons_succ]
  refine R_value (get_op rfl) (by rfl) (by rfl) (.pointer (some ⟨gp, 0, none⟩)) (fun _ _ => by go_simp) ?_
  simp only [Act.put, List.setIfInBounds_toArray, List.set_cons_zero, List.set_cons_succ]
  refine R_load (get_op rfl) (by rfl) (by rfl) 34 (.tmp 56) (by rfl) gp 0 (by rfl) X _ (fun V hV => HP.out V hV.1.1) Tryd.underlying34 rfl HXS.out ?_
  simp only [Act.put, List.setIfInBounds_toArray, List.set_cons_zero, List.set_cons_succ]
  refine R_load (get_op rfl) (by rfl) (by rfl) 34 (.tmp 4) (by rfl) w8.heap.size 0 (by rfl) X _ (fun V hV => HX.out V hV.1.1) Tryd.underlying34 rfl HXS.out ?_
  simp only [Act.put, List.setIfInBounds_toArray, List.set_cons_zero, List.set_cons_succ]
  refine R_eq (get_op rfl) (by rfl) (by rfl) .eql 34 _ (.tmp 57) (.tmp 58) (by rfl) X.toArray X.toArray (by rfl) (by rfl) (by kernel_rfl) (.bool true) HEX.out ?_
  simp only [Act.put, List.setIfInBounds_toArray, List.set_cons_zero, List.set_cons_succ]
  refine R_value (get_op rfl) (by rfl) (by rfl) (.bool true) (fun _ _ => by go_simp) ?_
  simp only [Act.put, List.setIfInBounds_toArray, List.set_cons_zero, List.set_cons_succ]
  refine R_value (get_op rfl) (by rfl) (by rfl) (.bool true) (fun _ _ => by go_simp) ?_
  simp only [Act.put, List.setIfInBounds_toArray, List.set_cons_zero, List.set_cons_succ]
  refine R_value (get_op rfl) (by rfl) (by rfl) (.slice (some ⟨gl, 0, none⟩) 3 3) (fun _ _ => by go_simp) ?_
  simp only [Act.put, List.setIfInBounds_toArray, List.set_cons_zero, List.set_cons_succ]
  refine R_call (get_op rfl) (by rfl) (by rfl) 16 #[(.slice (some ⟨gl, 0, none⟩) 3 3)] (.agg RT) (fun _ => by go_simp) (fun V hV => HRT.out V hV.1.1) ?_
  simp only [Act.put, List.setIfInBounds_toArray, List.set_cons_zero, List.set_cons_succ]
  refine R_value (get_op rfl) (by rfl) (by rfl) (.slice (some ⟨gp, 0, none⟩) 1 cp) (fun _ _ => by go_simp) ?_
  simp only [Act.put, List.setIfInBounds_toArray, List.set_cons_zero, List.set_cons_succ]
  refine R_loose (get_op rfl) (by rfl) (by rfl) _ _ (loose_build 55 5 (.const (.int .u8 99)) (.int .u8 99) (by rfl) (by rfl) (fun V hV => hV.1.1) (fun _ => by kernel_rfl)) ?_
  rintro _ ⟨g2, rfl⟩
  simp only [Act.put, List.setIfInBounds_toArray, List.set_cons_zero, List.set_cons_succ]
  refine R_loose (get_op rfl) (by rfl) (by rfl) _ _ (loose_conv 55 5 (.tmp 64) g2 #[.int .u8 99] (by rfl) (by rfl) (fun V hV => ⟨hV.1.1.1, hV.2⟩) Tryd.underlying55 Tryd.underlying5) ?_
  rintro _ rfl
  simp only [Act.put, List.setIfInBounds_toArray, List.set_cons_zero, List.set_cons_succ]
  refine R_call (get_op rfl) (by rfl) (by rfl) 44 #[.agg RT, .int .u64 3, .int .u64 2, (.slice (some ⟨g2, 0, none⟩) 1 1), (.slice (some ⟨gp, 0, none⟩) 1 cp)] (.int .i64 0) (fun _ => by go_simp) (fun V hV => HVb.out g2 V hV.1.1.1.1 hV.1.2) ?_
  simp only [Act.put, List.setIfInBounds_toArray, List.set_cons_zero, List.set_cons_succ]
  refine R_value (get_op rfl) (by rfl) (by rfl) (.bool true) (fun _ _ => by go_simp) ?_
  simp only [Act.put, List.setIfInBounds_toArray, List.set_cons_zero, List.set_cons_succ]
  refine R_value (get_op rfl) (by rfl) (by rfl) (.bool true) (fun _ _ => by go_simp) ?_
  simp only [Act.put, List.setIfInBounds_toArray, List.set_cons_zero, List.set_cons_succ]
  refine R_value (get_op rfl) (by rfl) (by rfl) (.bool true) (fun _ _ => by go_simp) ?_
  simp only [Act.put, List.setIfInBounds_toArray, List.set_cons_zero, List.set_cons_succ]
  refine R_value (get_op rfl) (by rfl) (by rfl) (.slice (some ⟨gl, 0, none⟩) 3 3) (fun _ _ => by go_simp) ?_
  simp only [Act.put, List.setIfInBounds_toArray, List.set_cons_zero, List.set_cons_succ]
  refine R_call (get_op rfl) (by rfl) (by rfl) 16 #[(.slice (some ⟨gl, 0, none⟩) 3 3)] (.agg RT) (fun _ => by go_simp) (fun V hV => HRT.out V hV.1.1.1.1) ?_
  simp only [Act.put, List.setIfInBounds_toArray, List.set_cons_zero, List.set_cons_succ]
  refine R_value (get_op rfl) (by rfl) (by rfl) (.slice (some ⟨gp, 0, none⟩) 1 cp) (fun _ _ => by go_simp) ?_
  simp only [Act.put, List.setIfInBounds_toArray, List.set_cons_zero, List.set_cons_succ]
  refine R_loose (get_op rfl) (by rfl) (by rfl) _ _ (loose_build 55 5 (.const (.int .u8 99)) (.int .u8 99) (by rfl) (by rfl) (fun V hV => hV.1.1.1.1) (fun _ => by kernel_rfl)) ?_
  rintro _ ⟨g3, rfl⟩
  simp only [Act.put, List.setIfInBounds_toArray, List.set_cons_zero, List.set_cons_succ]
  refine R_loose (get_op rfl) (by rfl) (by rfl) _ _ (loose_conv 55 5 (.tmp 73) g3 #[.int .u8 99] (by rfl) (by rfl) (fun V hV => ⟨hV.1.1.1.1.1, hV.2⟩) Tryd.underlying55 Tryd.underlying5) ?_
  rintro _ rfl
  simp only [Act.put, List.setIfInBounds_toArray, List.set_cons_zero, List.set_cons_succ]
  refine R_call (get_op rfl) (by rfl) (by rfl) 44 #[.agg RT, .int .u64 3, .int .u64 1, (.slice (some ⟨g3, 0, none⟩) 1 1), (.slice (some ⟨gp, 0, none⟩) 1 cp)] (.int .i64 20) (fun _ => by go_simp) (fun V hV => HVa.out g3 V hV.1.1.1.1.1.1 hV.1.2) ?_
  simp only [Act.put, List.setIfInBounds_toArray, List.set_cons_zero, List.set_cons_succ]
  refine R_value (get_op rfl) (by rfl) (by rfl) (.bool true) (fun _ _ => by go_simp) ?_
  simp only [Act.put, List.setIfInBounds_toArray, List.set_cons_zero, List.set_cons_succ]
  refine R_value (get_op rfl) (by rfl) (by rfl) (.bool true) (fun _ _ => by go_simp) ?_
  simp only [Act.put, List.setIfInBounds_toArray, List.set_cons_zero, List.set_cons_succ]
  refine R_value (get_op rfl) (by rfl) (by rfl) (.bool true) (fun _ _ => by go_simp) ?_
  simp only [Act.put, List.setIfInBounds_toArray, List.set_cons_zero]
  refine R_nil ?_
  rintro w10 hw10
  have hfin := FIN.out w10 hw10.1.1.1.1.1.1
  go_wp2
  go_ret
  exact ⟨rfl, hfin⟩
end Go.Proofs.YtnnhbgaeohdojaaDoor
