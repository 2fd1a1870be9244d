/-
  The law ShaNodes walked: what is hashed of an entry, and of two hashes, has a byte 0 or 1 ahead.
-/
import Derived.Test.YtahjmlhomaommaaDoorShaW
import Derived.Test.YtahjmlhomaommaaDoorRowU
namespace Go.Proofs.YtahjmlhomaommaaDoor
open Go.RowKit Go.BigFrame
set_option linter.unusedVariables false

theorem keeps_below {w w' : World} (h : Keeps (fun _ => False) w w') : Below w.heap.size w w' := h.below (Nat.le_refl _) (fun _ _ => id)

set_option maxRecDepth 100000 in
set_option maxHeartbeats 1000000 in
theorem nodes_long (A : Option Addr) (len c : Nat) (zx zy : List UInt8) (W : World) (hT : Tabs W) (hlen : 200 < len) (hmax : len ≤ 9223372036854775807) (hx : zx.length = 32) (hy : zy.length = 32) :
    Calls Tryd.prog 6 #[.slice A len c, .agg (bvs zx).toArray, .agg (bvs zy).toArray] W fun e W' => e = .returned (.bool true) ∧ Below W.heap.size W W' := by
  obtain ⟨X, hX⟩ : ∃ X : Array Value, (bvs zx).toArray = X := ⟨_, rfl⟩
  obtain ⟨Y, hY⟩ : ∃ Y : Array Value, (bvs zy).toArray = Y := ⟨_, rfl⟩
  rw [hX, hY]
  obtain ⟨W1, hW1⟩ : ∃ V, W.alloc (.cells X 24) = V := ⟨_, rfl⟩
  obtain ⟨W2, hW2⟩ : ∃ V, W1.alloc (.cells Y 24) = V := ⟨_, rfl⟩
  have k2 : Keeps (fun _ => False) W W2 := by rw [← hW2, ← hW1]; exact ((Keeps.refl _ _).alloc _).alloc _
  have haw := awake2_any W2 (hT.keeps k2 id id)
  have HAW := Lib.hid haw
  clear haw hT hX hY hx hy
  go_enter Tryd.func6, Tryd.ntmps6
  go_wp2_with fail
  refine HAW.out.mono ?_
  rintro e w3 ⟨rfl, k3⟩
  go_wp2
  go_ret
  exact ⟨rfl, keeps_below (k2.trans k3)⟩
set_option maxRecDepth 100000 in
set_option maxHeartbeats 1000000 in
theorem nodes_short (A : Option Addr) (c : Nat) (xs zx zy : List UInt8) (W : World) (hT : Tabs W) (hs : Src W A (bvs xs)) (hlen : xs.length ≤ 200) (hcap : xs.length ≤ c) (hmax : c ≤ 9223372036854775807) (hx : zx.length = 32) (hy : zy.length = 32) :
    Calls Tryd.prog 6 #[.slice A xs.length c, .agg (bvs zx).toArray, .agg (bvs zy).toArray] W fun e W' => e = .returned (.bool true) ∧ Below W.heap.size W W' := by
  obtain ⟨i0, hi0, hz0, hs0, hb0⟩ := info_parts info_u8t
  obtain ⟨X, hX⟩ : ∃ X : Array Value, (bvs zx).toArray = X := ⟨_, rfl⟩
  obtain ⟨Y, hY⟩ : ∃ Y : Array Value, (bvs zy).toArray = Y := ⟨_, rfl⟩
  rw [hX, hY]
  obtain ⟨W1, hW1⟩ : ∃ V, W.alloc (.cells X 24) = V := ⟨_, rfl⟩
  obtain ⟨W2, hW2⟩ : ∃ V, W1.alloc (.cells Y 24) = V := ⟨_, rfl⟩
  have k2 : Keeps (fun _ => False) W W2 := by rw [← hW2, ← hW1]; exact ((Keeps.refl _ _).alloc _).alloc _
  have rX : Row W2 W.heap.size 24 (bvs zx) := by rw [← hW2, ← hW1, ← hX]; exact heap_alloc2_old W _ _
  have rY : Row W2 W1.heap.size 24 (bvs zy) := by rw [← hW2, ← hY]; exact heap_alloc_new W1 _
  have haw := awake2_any W2 (hT.keeps k2 id id)
  have HAW := Lib.hid haw
  have HX := Lib.hid hx
  have HY := Lib.hid hy
  have HXX := Lib.hid hX
  have HYY := Lib.hid hY
  clear haw hX hY hx hy
  go_enter Tryd.func6, Tryd.ntmps6
  go_wp2_with fail
  refine HAW.out.mono ?_
  rintro e w3 ⟨rfl, k3⟩
  clear HAW
  obtain ⟨w4, hw4⟩ : ∃ V, w3.alloc (.cells #[.int .u8 0] 5) = V := ⟨_, rfl⟩
  have k4 : Keeps (fun _ => False) w3 w4 := by rw [← hw4]; exact (Keeps.refl _ _).alloc _
  have o4 : w4.ownsRow w3.heap.size 5 1 (.slice (some ⟨w3.heap.size, 0, none⟩) 1 1) 1 (bvs [0]) := ⟨rfl, .inr ⟨w3.heap.size, 1, #[.int .u8 0], rfl, Nat.le_refl _, by rw [← hw4]; exact heap_alloc_new w3 _, Nat.le_refl _, by unfold maxLen; omega, rfl, rfl⟩⟩
  have k24 := (k2.trans k3).trans k4
  have hk2s := k2.size
  have s4 : Src w4 A (bvs xs) := hs.keeps k24 (fun _ _ _ => id)
  have b4 := k4.size
  have b3 := (k2.trans k3).size
  have bX : W.heap.size < w3.heap.size := by have := rX.lt; have := k3.size; omega
  have bY : W1.heap.size < w3.heap.size := by have := rY.lt; have := k3.size; omega
  have rX3 := rX.keeps k3 id
  have rY3 := rY.keeps k3 id
  have K4 : Keeps (fun k => w3.heap.size ≤ k) w3 w4 := k4.mono (fun _ _ h => h.elim)
  have k3W := k2.trans k3
  have hs3 := hs.keeps k3W (fun _ _ _ => id)
  have hT3 := hT.keeps k3W id id
  have hsl : ∀ a, A = some a → (0 : Nat) < xs.length → a.block < w3.heap.size := fun a ha hp => by
    obtain ⟨a', ha', hc'⟩ := hs3.pos (by rw [bvs_length]; exact hp)
    rw [ha] at ha'
    injection ha' with ha'
    subst ha'
    have h1 := World.block_lt_of_cell? w3 _ (hc' 0 _ (bvs_at xs hp))
    have h2 : (a.add 0).block = a.block := by unfold Addr.add; split <;> rfl
    omega
  have HSRC : Hid (∀ V, Keeps (fun k => w3.heap.size ≤ k) w3 V → Src V A (bvs xs)) := fun V hk j u hu => by
    obtain ⟨a, e, hc⟩ := hs3 j u hu
    have hp : 0 < xs.length := by have := (List.getElem?_eq_some_iff.1 hu).1; rw [bvs_length] at this; omega
    have h2 : (a.add j).block = a.block := by unfold Addr.add; split <;> rfl
    exact ⟨a, e, (hk.cell (World.block_lt_of_cell? w3 _ hc) (by rw [h2]; have := hsl a e hp; omega)).trans hc⟩
  have HXR : Hid (∀ V, Keeps (fun k => w3.heap.size ≤ k) w3 V → Row V W.heap.size 24 (bvs zx)) := fun V hk => rX3.keeps hk (by omega)
  have HYR : Hid (∀ V, Keeps (fun k => w3.heap.size ≤ k) w3 V → Row V W1.heap.size 24 (bvs zy)) := fun V hk => rY3.keeps hk (by omega)
  have HTT : Hid (∀ V, Keeps (fun k => w3.heap.size ≤ k) w3 V → Tabs V) := fun V hk => hT3.keeps hk (by have := hT3.lt; have := hT.lt; omega) (by have := hT3.lt; have := hT.lt; omega)
  have HWW : Hid (∀ V, Keeps (fun k => w3.heap.size ≤ k) w3 V → Below W.heap.size W V) := fun V hk => keeps_below (k3W.trans' hk (fun i hi h => by omega))
  clear hW1 hW2 rX rY rX3 rY3 hs hs3 hT3 hsl k2 k3 k24
  go_wp2_with (at_builtin; refine wpList_append_src _ rfl _ _ 22 rfl w3.heap.size 5 i0 (.int .u8 0) 1 Tryd.underlying22 hi0 hz0 hs0 hb0 rfl (.slice (some ⟨w3.heap.size, 0, none⟩) 1 1) 1 (bvs [0]) rfl o4 A xs.length c (bvs xs) rfl (bvs_length _) s4 (bvs_one _) (by unfold maxLen; omega) (by omega) b4 ?next1)
  case next1 =>
  intro v5 w5 o5 g5 at5
  have K5 : Keeps (fun k => w3.heap.size ≤ k) w3 w5 := K4.grown g5 (fun k hk hr => by simp [Value.ownBlock] at hr; omega)
  rw [bvs_append] at o5
  obtain ⟨A5, c5, rfl, n5, m5, _⟩ := RowIn.of_own o5
  unfold maxLen at m5
  have s5 : Src w5 A5 (bvs ([0] ++ xs)) := Src.of_own o5
  have l5 : ∀ a, A5 = some a → a.block < w5.heap.size := fun a ha => by
    subst ha
    exact (o5.lt a.block rfl).2
  clear o5 g5 at5 o4 hw4 s4 b4
  obtain ⟨w6, hw6⟩ : ∃ V, w5.alloc (.cells #[.int .u8 1] 5) = V := ⟨_, rfl⟩
  have k6 : Keeps (fun _ => False) w5 w6 := by rw [← hw6]; exact (Keeps.refl _ _).alloc _
  have o6 : w6.ownsRow w5.heap.size 5 1 (.slice (some ⟨w5.heap.size, 0, none⟩) 1 1) 1 (bvs [1]) := ⟨rfl, .inr ⟨w5.heap.size, 1, #[.int .u8 1], rfl, Nat.le_refl _, by rw [← hw6]; exact heap_alloc_new w5 _, Nat.le_refl _, by unfold maxLen; omega, rfl, rfl⟩⟩
  have b6 := k6.size
  have b5 := K5.size
  have K6 : Keeps (fun k => w3.heap.size ≤ k) w3 w6 := K5.trans (k6.mono (fun _ _ h => h.elim))
  have sX : Src w6 (some ⟨W.heap.size, 0, none⟩) (bvs zx) := src_new (HXR.out _ K6)
  go_wp2_with (at_builtin; refine wpList_append_src _ rfl _ _ 22 rfl w5.heap.size 5 i0 (.int .u8 0) 1 Tryd.underlying22 hi0 hz0 hs0 hb0 rfl (.slice (some ⟨w5.heap.size, 0, none⟩) 1 1) 1 (bvs [1]) rfl o6 (some ⟨W.heap.size, 0, none⟩) 32 32 (bvs zx) rfl (by rw [bvs_length]; exact HX.out) sX (bvs_one _) (by unfold maxLen; omega) (by omega) b6 ?next2)
  case next2 =>
  intro v7 w7 o7 g7 at7
  have K7 : Keeps (fun k => w3.heap.size ≤ k) w3 w7 := K6.grown g7 (fun k hk hr => by simp [Value.ownBlock] at hr; omega)
  have k57 : Keeps (fun k => w5.heap.size ≤ k) w5 w7 := (k6.mono (fun _ _ h => h.elim)).grown g7 (fun k hk hr => by simp [Value.ownBlock] at hr; omega)
  have b7 := g7.size
  rw [bvs_append] at o7
  have sY : Src w7 (some ⟨W1.heap.size, 0, none⟩) (bvs zy) := src_new (HYR.out _ K7)
  obtain ⟨A7, c7, rfl, n7, m7, _⟩ := RowIn.of_own o7
  clear o6 g7 at7 hw6 sX
  go_wp2_with (at_builtin; refine wpList_append_src _ rfl _ _ 22 rfl w5.heap.size 5 i0 (.int .u8 0) 1 Tryd.underlying22 hi0 hz0 hs0 hb0 rfl (.slice A7 (1 + 32) c7) (1 + 32) (bvs ([1] ++ zx)) rfl o7 (some ⟨W1.heap.size, 0, none⟩) 32 32 (bvs zy) rfl (by rw [bvs_length]; exact HY.out) sY (bvs_one _) (by unfold maxLen; omega) (by omega) (by omega) ?next3)
  case next3 =>
  intro v8 w8 o8 g8 at8
  have K8 : Keeps (fun k => w3.heap.size ≤ k) w3 w8 := K7.grown g8 (fun k hk hr => by have := (o7.lt k hr).1; omega)
  have k58 : Keeps (fun k => w5.heap.size ≤ k) w5 w8 := k57.grown g8 (fun k hk hr => by have := (o7.lt k hr).1; omega)
  rw [bvs_append] at o8
  obtain ⟨A8, c8, rfl, n8, m8, _⟩ := RowIn.of_own o8
  unfold maxLen at m7 m8
  have s8 : Src w8 A8 (bvs ([1] ++ zx ++ zy)) := Src.of_own o8
  have s58 : Src w8 A5 (bvs ([0] ++ xs)) := s5.keeps k58 (fun a ha _ h => by have := l5 a ha; omega)
  clear o7 o8 g8 at8 sY s5 l5 k57 k58 k6
  have sl8 := HSRC.out _ K8
  have hleaf := leaf_any A c xs w8 (HTT.out _ K8) sl8 hcap hmax (by omega)
  obtain ⟨V1, hV1⟩ : ∃ V, Sh.sha (0 :: xs) = V := ⟨_, rfl⟩
  obtain ⟨V2, hV2⟩ : ∃ V, Sh.sha (1 :: (zx ++ zy)) = V := ⟨_, rfl⟩
  rw [hV1] at hleaf
  have HLEAF := Lib.hid hleaf
  have HV1 : IsSha (0 :: xs) V1 := ⟨hV1⟩
  have HV2 : IsSha (1 :: (zx ++ zy)) V2 := ⟨hV2⟩
  clear hleaf hV1 hV2 sl8
  go_wp2_with fail
  refine HLEAF.out.mono ?_
  rintro e w9 ⟨rfl, k9⟩
  clear HLEAF
  have K9 : Keeps (fun k => w3.heap.size ≤ k) w3 w9 := K8.trans (k9.mono (fun _ _ h => h.elim))
  obtain ⟨w10, hw10⟩ : ∃ V, w9.alloc (.cells #[.slice A5 (1 + xs.length) c5] 22) = V := ⟨_, rfl⟩
  have k10 : Keeps (fun _ => False) w9 w10 := by rw [← hw10]; exact (Keeps.refl _ _).alloc _
  have r10 : Row w10 w9.heap.size 22 [.slice A5 (1 + xs.length) c5] := by rw [← hw10]; exact heap_alloc_new w9 _
  have K10 := K9.trans (k10.mono (T := fun k => w3.heap.size ≤ k) (fun _ _ h => h.elim))
  have L1 : ([0] ++ xs).length = 1 + xs.length := by simp; omega
  have hof := of_any _ 1 _ w10 (HTT.out _ K10) (rowsAt_one (a := ⟨w9.heap.size, 0, none⟩) (r := (A5, c5, [0] ++ xs)) (by rw [add_plain]; show _ = some (Value.slice A5 ([0] ++ xs).length c5); rw [L1]; exact r10.cell 0) ((s58.keeps k9 (fun _ _ _ => id)).keeps k10 (fun _ _ _ => id)) ⟨by show ([0] ++ xs).length ≤ c5; omega, by show c5 ≤ _; omega⟩) (by simp) (by simp [bytesOf]; omega)
  have e1 : bytesOf [(A5, c5, [0] ++ xs)] = 0 :: xs := by simp [bytesOf]
  rw [e1, HV1.out] at hof
  have HOF : Hid (Calls Tryd.prog 9 #[.slice (some ⟨w9.heap.size, 0, none⟩) 1 1] w10 fun e w' => e = .returned (.agg (bvs V1).toArray) ∧ Keeps (fun _ => False) w10 w') := hof
  have s810 := ((s8.keeps k9 (fun _ _ _ => id)).keeps k10 (fun _ _ _ => id))
  clear hof e1 r10 k9 K8 K9 s58 k10 s8 L1
  go_wp2_with fail
  refine HOF.out.mono ?_
  rintro e w11 ⟨rfl, k11⟩
  clear HOF hw10
  have K11 := K10.trans (k11.mono (T := fun k => w3.heap.size ≤ k) (fun _ _ h => h.elim))
  have s811 := s810.keeps k11 (fun _ _ _ => id)
  have HL1 : Hid (V1.length = 32) := by show _ = _; rw [← HV1.out]; rfl
  have HL2 : Hid (V2.length = 32) := by show _ = _; rw [← HV2.out]; rfl
  have HE : Hid (∀ (V : List UInt8), V.length = 32 → ∀ W : World, (binOp .eql 24 (.agg (bvs V).toArray) (.agg (bvs V).toArray)).run Tryd.prog W = .ok (.bool true) W) := fun V hV W => by
    rw [run_eql_bytes W 24 5 32 Tryd.underlying24 Tryd.underlying5 hi0 (by kernel_rfl) (by kernel_rfl) V V hV hV]
    simp
  have hx11 : w11.heap[W.heap.size]? = some (.cells X 24 (0, 0)) := by rw [← HXX.out]; exact HXR.out _ K11
  have hy11 : w11.heap[W1.heap.size]? = some (.cells Y 24 (0, 0)) := by rw [← HYY.out]; exact HYR.out _ K11
  have hxs : (Tryd.prog.info? 24).map (·.size) = some X.size := by rw [← HXX.out, List.size_toArray, bvs_length, HX.out]; exact size_hash'
  have hys : (Tryd.prog.info? 24).map (·.size) = some Y.size := by rw [← HYY.out, List.size_toArray, bvs_length, HY.out]; exact size_hash'
  have HX11 := Lib.hid hx11
  have HY11 := Lib.hid hy11
  have HXS := Lib.hid hxs
  have HYS := Lib.hid hys
  have hnode := node_any zx zy w11 (HTT.out _ K11) HX.out HY.out
  rw [HXX.out, HYY.out, HV2.out] at hnode
  have HNODE := Lib.hid hnode
  clear hx11 hy11 hxs hys hnode K10 k11 s810
  go_wp2_with (first
    | (refine wpList_eq_agg_w (by rfl) .eql 24 _ (.tmp 26) (.tmp 29) (by rfl) (bvs V1).toArray (bvs V1).toArray (by rfl) (by rfl) (by kernel_rfl) (.bool true) (HE.out V1 HL1.out _) ?_)
    | (refine wpList_load_row_w (by rfl) 24 (.tmp 4) (by rfl) W.heap.size (by rfl) 24 X (0, 0) _ HX11.out Tryd.underlying24 rfl HXS.out ?_)
    | (refine wpList_load_row_w (by rfl) 24 (.tmp 5) (by rfl) W1.heap.size (by rfl) 24 Y (0, 0) _ HY11.out Tryd.underlying24 rfl HYS.out ?_))
  refine HNODE.out.mono ?_
  rintro e w12 ⟨rfl, k12⟩
  clear HNODE
  have K12 := K11.trans (k12.mono (T := fun k => w3.heap.size ≤ k) (fun _ _ h => h.elim))
  obtain ⟨w13, hw13⟩ : ∃ V, w12.alloc (.cells #[.slice A8 (1 + 32 + 32) c8] 22) = V := ⟨_, rfl⟩
  have k13 : Keeps (fun _ => False) w12 w13 := by rw [← hw13]; exact (Keeps.refl _ _).alloc _
  have r13 : Row w13 w12.heap.size 22 [.slice A8 (1 + 32 + 32) c8] := by rw [← hw13]; exact heap_alloc_new w12 _
  have K13 := K12.trans (k13.mono (T := fun k => w3.heap.size ≤ k) (fun _ _ h => h.elim))
  have L8 : ([1] ++ zx ++ zy).length = 1 + 32 + 32 := by rw [List.length_append, List.length_append, HX.out, HY.out]; rfl
  have hof := of_any _ 1 _ w13 (HTT.out _ K13) (rowsAt_one (a := ⟨w12.heap.size, 0, none⟩) (r := (A8, c8, [1] ++ zx ++ zy)) (by rw [add_plain]; show _ = some (Value.slice A8 ([1] ++ zx ++ zy).length c8); rw [L8]; exact r13.cell 0) ((s811.keeps k12 (fun _ _ _ => id)).keeps k13 (fun _ _ _ => id)) ⟨by show ([1] ++ zx ++ zy).length ≤ c8; omega, by show c8 ≤ _; omega⟩) (by simp) (by simp [bytesOf, HX.out, HY.out])
  have e1 : bytesOf [(A8, c8, [1] ++ zx ++ zy)] = 1 :: (zx ++ zy) := by simp [bytesOf]
  rw [e1, HV2.out] at hof
  have HOF : Hid (Calls Tryd.prog 9 #[.slice (some ⟨w12.heap.size, 0, none⟩) 1 1] w13 fun e w' => e = .returned (.agg (bvs V2).toArray) ∧ Keeps (fun _ => False) w13 w') := hof
  clear hof e1 r13 k12 k13 K11 K12 s811 L8
  go_wp2_with fail
  refine HOF.out.mono ?_
  rintro e w14 ⟨rfl, k14⟩
  clear HOF hw13
  have fin := HWW.out _ (K13.trans (k14.mono (T := fun k => w3.heap.size ≤ k) (fun _ _ h => h.elim)))
  go_wp2_with (refine wpList_eq_agg_w (by rfl) .eql 24 _ (.tmp 34) (.tmp 37) (by rfl) (bvs V2).toArray (bvs V2).toArray (by rfl) (by rfl) (by kernel_rfl) (.bool true) (HE.out V2 HL2.out _) ?_)
  go_ret
  exact ⟨rfl, fin⟩
/-- All. -/
theorem nodes_all (A : Option Addr) (len c : Nat) (zs : List Int) (zx zy : List UInt8) (W : World) (hT : Tabs W) (h0 : IsRowU .u8 W A len c zs) (hx : zx.length = 32) (hy : zy.length = 32) :
    Calls Tryd.prog 6 #[.slice A len c, .agg (bvs zx).toArray, .agg (bvs zy).toArray] W fun e W' => e = .returned (.bool true) ∧ Below W.heap.size W W' := by
  obtain ⟨xs, rfl, hs, hcap, hmax⟩ := h0.src
  by_cases hlen : 200 < xs.length
  · exact nodes_long A xs.length c zx zy W hT hlen (by omega) hx hy
  · exact nodes_short A c xs zx zy W hT hs (by omega) hcap hmax hx hy
end Go.Proofs.YtahjmlhomaommaaDoor
