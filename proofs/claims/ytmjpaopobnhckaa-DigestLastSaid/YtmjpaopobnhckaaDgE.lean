/-
  The law's own first check, out of the contracts.
-/
import Derived.Test.YtmjpaopobnhckaaDgPu
namespace Go.Proofs.Ytmjpaopobnhckaa
open Go.RowKit Go.BigFrame
set_option linter.unusedVariables false
set_option linter.unusedSimpArgs false

/-- The keys and hashes of the document's example. -/
def ek (n : Nat) : Ft.Key := (n, List.replicate 32 0)
def eh (c : UInt8) : List UInt8 := c :: List.replicate 31 0
theorem ek_ok (n : Nat) (h : n ≤ 9) : Ft.Key.Ok (ek n) := ⟨by show n ≤ _; omega, by simp [ek]⟩
theorem eh_ok (c : UInt8) : (eh c).length = 32 := by simp [eh]
theorem build_ek (n : Nat) (V : World) : (Instr.build 54 #[(0, .int .u64 (n : Int))]).run Try.prog V = .ok (.agg (kcs (ek n)).toArray) V := by kernel_rfl
theorem build_eh (c : UInt8) (V : World) : (Instr.build 52 #[(0, .int .u8 (c.toNat : Int))]).run Try.prog V = .ok (.agg (bvs (eh c)).toArray) V := by kernel_rfl
theorem zero_ek (V : World) : (zeroValue 54).run Try.prog V = .ok (.agg (kcs (ek 0)).toArray) V := by kernel_rfl
theorem two_keys (a b : Nat) (V : World) : (Instr.buildSlice 22 2 #[(0, .agg (kcs (ek a)).toArray), (1, .agg (kcs (ek b)).toArray)]).run Try.prog V = .ok (.slice (some ⟨V.heap.size, 0, none⟩) 2 2) (V.alloc (.cells (flt kcs [ek a, ek b]).toArray 54)) := by kernel_rfl
theorem two_hashes (a b : UInt8) (V : World) : (Instr.buildSlice 23 2 #[(0, .agg (bvs (eh a)).toArray), (1, .agg (bvs (eh b)).toArray)]).run Try.prog V = .ok (.slice (some ⟨V.heap.size, 0, none⟩) 2 2) (V.alloc (.cells (flt bvs [eh a, eh b]).toArray 52)) := by kernel_rfl
theorem wpList_buildN19 {P : Program} {ops : Array Oper} {rest : List Oper} {o : Oper} {a : Act} {w w' : World} {Q : Exit → Act → World → Prop} (hgd : o.guard = none) (t : TypeId) (n : Nat) (parts : List (Nat × Operand)) (ho : o.op = .buildSlice t n parts.toArray) (vs : List (Nat × Value)) (hx : parts.map (fun (i, x) => (i, a.eval x)) = vs)
    (v : Value) (hrun : (Instr.buildSlice t n vs.toArray).run P w = .ok v w') (h : wpList P ops Q rest (a.put o.dst v) w') : wpList P ops Q (o :: rest) a w := by
  refine wpList_plain hgd fun _ hK => ?_
  unfold Oper.wp execOp
  simp only [ho, Sem.run_bind, Sem.run_pure, Result.andThen_ok, List.map_toArray, hx, hrun]
  exact hK _ _ h
theorem keys_lie {w : World} {g : Nat} {l : List Ft.Key} (h : w.heap[g]? = some (.cells (flt kcs l).toArray 54 (0, 0))) (hok : ∀ k ∈ l, Ft.Key.Ok k) (hl : l.length ≤ 1000) : LK w (some ⟨g, 0, none⟩) l.length l.length l :=
  IsList.of_own kcs_len (by decide) hok (own_fresh h (Nat.zero_le g) (flt_length kcs_len l hok) (by unfold maxLen; omega))
theorem hashes_lie {w : World} {g : Nat} {l : List (List UInt8)} (h : w.heap[g]? = some (.cells (flt bvs l).toArray 52 (0, 0))) (hok : ∀ k ∈ l, k.length = 32) (hl : l.length ≤ 1000) : LH w (some ⟨g, 0, none⟩) l.length l.length l :=
  IsList.of_own hbs_len (by decide) hok (own_fresh h (Nat.zero_le g) (flt_length hbs_len l hok) (by unfold maxLen; omega))
theorem ok2 {a b : Nat} (ha : a ≤ 9) (hb : b ≤ 9) : ∀ k ∈ [ek a, ek b], Ft.Key.Ok k := fun k hk => by
  rcases List.mem_cons.1 hk with rfl | hk
  · exact ek_ok _ ha
  · rw [List.mem_singleton] at hk; subst hk; exact ek_ok _ hb
theorem ex_put : (Dg.put [ek 2, ek 3] [eh 5]).1.length = 114 ∧ (Dg.put [ek 2, ek 3] [eh 5]).2 = 0 ∧ Dg.get (Dg.put [ek 2, ek 3] [eh 5]).1 = ([ek 2, ek 3], [eh 5], 0) := by
  have hk := ok2 (a := 2) (b := 3) (by decide) (by decide)
  have hf : ∀ k ∈ [eh 5], k.length = 32 := fun k h => by rw [List.mem_singleton] at h; subst h; exact eh_ok 5
  have e : Dg.put [ek 2, ek 3] [eh 5] = (Dg.bytes [ek 2, ek 3] [eh 5], 0) := rfl
  rw [e]
  exact ⟨bytes_length hk hf, rfl, Dg.get_bytes _ _ hk hf (by decide) (by decide)⟩
theorem ex_wants : Dg.knot [ek 2, ek 3] [ek 1, ek 2] = [ek 3] := by decide +kernel
theorem ex_lacks : Dg.knot [ek 1, ek 2] [ek 2, ek 3] = [ek 1] := by decide +kernel
theorem ex_misses : Dg.knot [eh 5, eh 6] [eh 5] = [eh 6] := by decide +kernel
theorem mk_key (V : World) (n : Nat) : ∃ (b : Nat) (V1 V2 : World), V.heap.size = b ∧ V.alloc (.cells (kcs (ek 0)).toArray 54) = V1 ∧ V1.setRow b (kcs (ek n)).toArray = V2 ∧ V1.heap[b]? = some (.cells (kcs (ek 0)).toArray 54 (0, 0)) ∧ V2.heap[b]? = some (.cells (kcs (ek n)).toArray 54 (0, 0)) ∧ Keeps (fun _ => False) V V2 := lay_digest V _ _ _
theorem blk19 {w w' : World} {b : Nat} {o : Obj} (h : w.heap[b]? = some o) (k : Keeps (fun _ => False) w w') : w'.heap[b]? = some o := (k.block b (Array.getElem?_eq_some_iff.1 h).1 id).trans h
theorem pair_keys (V : World) (a b : Nat) (ha : a ≤ 9) (hb : b ≤ 9) : ∃ (g : Nat) (V' : World), (Instr.buildSlice 22 2 #[(0, .agg (kcs (ek a)).toArray), (1, .agg (kcs (ek b)).toArray)]).run Try.prog V = .ok (.slice (some ⟨g, 0, none⟩) 2 2) V' ∧ LK V' (some ⟨g, 0, none⟩) 2 2 [ek a, ek b] ∧ Keeps (fun _ => False) V V' :=
  ⟨_, _, two_keys a b V, keys_lie (l := [ek a, ek b]) (heap_alloc_new V _) (ok2 ha hb) (by simp), (Keeps.refl _ _).alloc _⟩
theorem pair_hashes (V : World) (a b : UInt8) : ∃ (g : Nat) (V' : World), (Instr.buildSlice 23 2 #[(0, .agg (bvs (eh a)).toArray), (1, .agg (bvs (eh b)).toArray)]).run Try.prog V = .ok (.slice (some ⟨g, 0, none⟩) 2 2) V' ∧ LH V' (some ⟨g, 0, none⟩) 2 2 [eh a, eh b] ∧ Keeps (fun _ => False) V V' :=
  ⟨_, _, two_hashes a b V, hashes_lie (l := [eh a, eh b]) (heap_alloc_new V _) (fun k hk => by
    rcases List.mem_cons.1 hk with rfl | hk
    · exact eh_ok _
    · rw [List.mem_singleton] at hk; subst hk; exact eh_ok _) (by simp), (Keeps.refl _ _).alloc _⟩
set_option maxRecDepth 100000 in
set_option maxHeartbeats 4000000 in
theorem awake19_all (C : Digs) : Awake19 := by
  intro W
  have CC := Lib.hid C
  obtain ⟨Z, hZ⟩ : ∃ Z, dcs (.slice none 0 0) (.slice none 0 0) = Z := ⟨_, rfl⟩
  have hz : ∀ V : World, (zeroValue 26).run Try.prog V = .ok (.agg Z) V := fun V => by rw [← hZ]; exact zero_G V
  have HZ := Lib.hid hZ
  obtain ⟨b1, V1, W1, hb1, hV1, hW1, r1, r1', k1⟩ := mk_key W 1
  obtain ⟨b2, V2, W2, hb2, hV2, hW2, r2, r2', k2⟩ := mk_key W1 2
  obtain ⟨b3, V3, W3, hb3, hV3, hW3, r3, r3', k3⟩ := mk_key W2 3
  have t4 := two_keys 2 3 W3
  have hb1k := build_ek 1
  have hb2k := build_ek 2
  have hb3k := build_ek 3
  have hb5h := build_eh 5
  have hb6h := build_eh 6
  have hzk : ∀ V : World, (zeroValue 54).run Try.prog V = .ok (.agg (kcs (ek 0)).toArray) V := zero_ek
  have sk : ∀ n, (Try.prog.info? 54).map (·.size) = some (kcs (ek n)).toArray.size ∧ (kcs (ek 0)).toArray.size = (kcs (ek n)).toArray.size ∧ (kcs (ek n)).toArray.all (·.oneCell') = true := fun n => by
    refine ⟨by rw [List.size_toArray, kcs_length (by simp [ek])]; exact info_k, by rw [List.size_toArray, List.size_toArray, kcs_length (by simp [ek]), kcs_length (by simp [ek])], ?_⟩
    rw [Array.all_eq_true_iff_forall_mem]; intro v hv; exact kcs_one _ v (by simpa using hv)
  have SK := Lib.hid (And.intro (sk 1) (And.intro (sk 2) (sk 3)))
  have KW1 := Lib.hid k1
  have KW2 := Lib.hid (k1.trans k2)
  have KW3 := Lib.hid ((k1.trans k2).trans k3)
  have k13 := k2.trans k3
  have R13 : Hid (W3.heap[b1]? = some (.cells (kcs (ek 1)).toArray 54 (0, 0))) := Lib.hid ((k13.block b1 (Array.getElem?_eq_some_iff.1 r1').1 id).trans r1')
  have R23 : Hid (W3.heap[b2]? = some (.cells (kcs (ek 2)).toArray 54 (0, 0))) := Lib.hid ((k3.block b2 (Array.getElem?_eq_some_iff.1 r2').1 id).trans r2')
  have R33 := Lib.hid r3'
  have R1 := Lib.hid r1
  have R2 := Lib.hid r2
  have R3 := Lib.hid r3
  obtain ⟨V4, hV4⟩ : ∃ V, W3.alloc (.cells (flt kcs [ek 2, ek 3]).toArray 54) = V := ⟨_, rfl⟩
  have L4 : Hid (LK V4 (some ⟨W3.heap.size, 0, none⟩) 2 2 [ek 2, ek 3]) := Lib.hid (by rw [← hV4]; exact keys_lie (l := [ek 2, ek 3]) (heap_alloc_new W3 _) (ok2 (by decide) (by decide)) (by decide))
  have kV4 : Keeps (fun _ => False) W3 V4 := by rw [← hV4]; exact (Keeps.refl _ _).alloc _
  rw [hV4] at t4
  obtain ⟨g4, hg4⟩ : ∃ x, W3.heap.size = x := ⟨_, rfl⟩
  rw [hg4] at t4 L4
  have h5l : (bvs (eh 5)).length = 32 := by rw [bvs_length, eh_ok]
  have t5 := build_hashes1 (bvs (eh 5)) h5l V4
  obtain ⟨V5, hV5⟩ : ∃ V, V4.alloc (.cells (bvs (eh 5)).toArray 52) = V := ⟨_, rfl⟩
  have L5 : Hid (LH V5 (some ⟨V4.heap.size, 0, none⟩) 1 1 [eh 5]) := Lib.hid (by rw [← hV5]; exact hashes_lie (l := [eh 5]) (by have h := heap_alloc_new V4 (.cells (bvs (eh 5)).toArray 52); simpa [flt] using h) (fun k hk => by rw [List.mem_singleton] at hk; subst hk; exact eh_ok 5) (by decide))
  have kV5 : Keeps (fun _ => False) V4 V5 := by rw [← hV5]; exact (Keeps.refl _ _).alloc _
  rw [hV5] at t5
  obtain ⟨g5, hg5⟩ : ∃ x, V4.heap.size = x := ⟨_, rfl⟩
  rw [hg5] at t5 L5
  have h6 := CC.out.make V5 _ _ 2 2 1 1 [ek 2, ek 3] [eh 5] (L4.out.later kV5) L5.out (by decide) (by decide)
  have KV5 := Lib.hid (((KW3.out.trans kV4).trans kV5))
  have KX5 := Lib.hid (kV4.trans kV5)
  have H6 := Lib.hid h6
  have T4 := Lib.hid t4
  have T5 := Lib.hid t5
  obtain ⟨K1, hK1⟩ : ∃ K, (kcs (ek 1)).toArray = K := ⟨_, rfl⟩
  obtain ⟨K2, hK2⟩ : ∃ K, (kcs (ek 2)).toArray = K := ⟨_, rfl⟩
  obtain ⟨K3, hK3⟩ : ∃ K, (kcs (ek 3)).toArray = K := ⟨_, rfl⟩
  obtain ⟨ZK, hZK⟩ : ∃ K, (kcs (ek 0)).toArray = K := ⟨_, rfl⟩
  obtain ⟨H5, hH5⟩ : ∃ K, (bvs (eh 5)).toArray = K := ⟨_, rfl⟩
  obtain ⟨X6, hX6⟩ : ∃ K, (bvs (eh 6)).toArray = K := ⟨_, rfl⟩
  rw [hK1] at hb1k SK hW1 R13
  rw [hK2] at hb2k SK hW2 R23 T4
  rw [hK3] at hb3k SK hW3 R33 T4
  rw [hZK] at hzk SK hV1 hV2 hV3 R1 R2 R3
  rw [hH5] at hb5h T5
  rw [hX6] at hb6h
  have HBK1 : Hid (∀ V : World, (Instr.build 54 #[(0, .int .u64 1)]).run Try.prog V = .ok (.agg K1) V) := Lib.hid hb1k
  have HBK2 : Hid (∀ V : World, (Instr.build 54 #[(0, .int .u64 2)]).run Try.prog V = .ok (.agg K2) V) := Lib.hid hb2k
  have HBK3 : Hid (∀ V : World, (Instr.build 54 #[(0, .int .u64 3)]).run Try.prog V = .ok (.agg K3) V) := Lib.hid hb3k
  have HBH5 : Hid (∀ V : World, (Instr.build 52 #[(0, .int .u8 5)]).run Try.prog V = .ok (.agg H5) V) := Lib.hid hb5h
  have HBX6 : Hid (∀ V : World, (Instr.build 52 #[(0, .int .u8 6)]).run Try.prog V = .ok (.agg X6) V) := Lib.hid hb6h
  have HEQ := Lib.hid (And.intro hK1 (And.intro hK2 (And.intro hK3 (And.intro hH5 hX6))))
  clear C hZ r1 r1' r2 r2' r3 r3' k1 k2 k3 k13 kV4 kV5 hb1k hb2k hb3k hb5h hb6h sk h5l t4 t5 h6 hK1 hK2 hK3 hZK hH5 hX6 hV4 hV5 hg4 hg5
  go_enter Try.func9, Try.ntmps9
  go_wp2_with (first
    | (refine wpList_made (by rfl) 54 [(0, .const (.int .u64 1))] (by rfl) [(0, .int .u64 1)] (by rfl) (.agg K1) HBK1.out ?_)
    | (refine wpList_made (by rfl) 54 [(0, .const (.int .u64 2))] (by rfl) [(0, .int .u64 2)] (by rfl) (.agg K2) HBK2.out ?_)
    | (refine wpList_made (by rfl) 54 [(0, .const (.int .u64 3))] (by rfl) [(0, .int .u64 3)] (by rfl) (.agg K3) HBK3.out ?_)
    | (refine wpList_store_row (by rfl) 54 _ _ (by rfl) b1 K1 (by rfl) (by rfl) 54 ZK R1.out SK.out.1.1 SK.out.1.2.1 SK.out.1.2.2 ?_; rw [hW1])
    | (refine wpList_store_row (by rfl) 54 _ _ (by rfl) b2 K2 (by rfl) (by rfl) 54 ZK R2.out SK.out.2.1.1 SK.out.2.1.2.1 SK.out.2.1.2.2 ?_; rw [hW2])
    | (refine wpList_store_row (by rfl) 54 _ _ (by rfl) b3 K3 (by rfl) (by rfl) 54 ZK R3.out SK.out.2.2.1 SK.out.2.2.2.1 SK.out.2.2.2.2 ?_; rw [hW3])
    | (refine wpList_load_row (by rfl) 54 _ (by rfl) b2 (by rfl) 54 K2 (0, 0) _ R23.out Try.underlying54 rfl SK.out.2.1.1 ?_)
    | (refine wpList_load_row (by rfl) 54 _ (by rfl) b3 (by rfl) 54 K3 (0, 0) _ R33.out Try.underlying54 rfl SK.out.2.2.1 ?_)
    | (refine wpList_buildN19 (by rfl) 22 2 [(0, .tmp 15), (1, .tmp 16)] (by rfl) [(0, .agg K2), (1, .agg K3)] (by rfl) _ T4.out ?_)
    | (refine wpList_made (by rfl) 52 [(0, .const (.int .u8 5))] (by rfl) [(0, .int .u8 5)] (by rfl) (.agg H5) HBH5.out ?_)
    | (refine wpList_buildN19 (by rfl) 23 1 [(0, .tmp 18)] (by rfl) [(0, .agg H5)] (by rfl) _ T5.out ?_)
    | fail)
  refine H6.out.mono ?_
  rintro e w6 ⟨A6, c6, B6, d6, rfl, k6, l6, m6⟩
  have l6' : LK w6 A6 2 c6 [ek 2, ek 3] := l6
  have m6' : LH w6 B6 1 d6 [eh 5] := m6
  obtain ⟨D6, hD6⟩ : ∃ D, dcs (.slice A6 2 c6) (.slice B6 1 d6) = D := ⟨_, rfl⟩
  have e6 : (Value.agg (dcs (Value.slice A6 (Dg.last [ek 2, ek 3]).length c6) (Value.slice B6 (Dg.last [eh 5]).length d6))) = .agg D6 := by rw [← hD6]; rfl
  rw [e6]
  obtain ⟨b4, V7, W7, hb7, hV7, hW7, r7, r7', k7⟩ := lay_digest w6 26 D6 Z
  have SD6 : Hid ((Try.prog.info? 26).map (·.size) = some D6.size ∧ Z.size = D6.size ∧ D6.all (·.oneCell') = true) := Lib.hid ⟨by rw [← hD6]; exact size_G _ _, by rw [← hD6, ← HZ.out]; rfl, by rw [← hD6]; exact dcs_one _ _ _ _ _ _⟩
  have k37 := (KX5.out.trans k6).trans k7
  have KW7 := Lib.hid ((KV5.out.trans k6).trans k7)
  have R7 := Lib.hid r7
  have B7 := Lib.hid (And.intro (blk19 R13.out k37) (And.intro (blk19 R23.out k37) (And.intro (blk19 R33.out k37) r7')))
  have L7 := Lib.hid (And.intro (l6'.later k7) (m6'.later k7))
  -- Wants
  obtain ⟨g8, V8, t8, l8, k8⟩ := pair_keys W7 1 2 (by decide) (by decide)
  rw [HEQ.out.1, HEQ.out.2.1] at t8
  have hw := CC.out.wants V8 _ A6 B6 2 2 2 c6 1 d6 [ek 1, ek 2] [ek 2, ek 3] [eh 5] l8 (L7.out.1.later k8) (L7.out.2.later k8) (by decide) (by decide) (by decide)
  rw [hD6, ex_wants] at hw
  have KV8 := Lib.hid (KW7.out.trans k8)
  have KS8 := Lib.hid k8
  have T8 := Lib.hid t8
  have B8 := Lib.hid (blk19 B7.out.2.2.2 k8)
  have HW8 := Lib.hid hw
  have HD6 := Lib.hid hD6
  clear l6 m6 l6' m6' e6 r7 r7' k37 k7 k6 t8 l8 k8 hw hD6 KV5 KX5 L4 L5 T4 T5 H6 R1 R2 R3 hV1 hV2 hV3 hW1 hW2 hW3 hb1 hb2 hb3 KW1 KW2 KW3 R13 R23 R33
  go_wp2_with (first
    | (refine wpList_store_row (by rfl) 26 _ _ (by rfl) b4 D6 (by rfl) (by rfl) 26 Z R7.out SD6.out.1 SD6.out.2.1 SD6.out.2.2 ?_; rw [hW7])
    | (refine wpList_load_row (by rfl) 54 _ (by rfl) b1 (by rfl) 54 K1 (0, 0) _ B7.out.1 Try.underlying54 rfl SK.out.1.1 ?_)
    | (refine wpList_load_row (by rfl) 54 _ (by rfl) b2 (by rfl) 54 K2 (0, 0) _ B7.out.2.1 Try.underlying54 rfl SK.out.2.1.1 ?_)
    | (refine wpList_buildN19 (by rfl) 22 2 [(0, .tmp 21), (1, .tmp 22)] (by rfl) [(0, .agg K1), (1, .agg K2)] (by rfl) _ T8.out ?_)
    | (refine wpList_load_row (by rfl) 26 _ (by rfl) b4 (by rfl) 26 D6 (0, 0) _ B8.out Try.underlying26 rfl SD6.out.1 ?_)
    | fail)
  refine HW8.out.mono ?_
  rintro e w9 ⟨P, pc, rfl, k9, l9⟩
  have KW9 := Lib.hid (KV8.out.trans k9)
  have k79 := KS8.out.trans k9
  have B9 := Lib.hid (And.intro (blk19 B7.out.1 k79) (And.intro (blk19 B7.out.2.1 k79) (And.intro (blk19 B7.out.2.2.1 k79) (blk19 B7.out.2.2.2 k79))))
  have L9 := Lib.hid (And.intro (L7.out.1.later k79) (And.intro (L7.out.2.later k79) l9))
  obtain ⟨g10, V10, t10, l10, k10⟩ := pair_keys w9 1 2 (by decide) (by decide)
  rw [HEQ.out.1, HEQ.out.2.1] at t10
  have hl := CC.out.lacks V10 _ A6 B6 2 2 2 c6 1 d6 [ek 1, ek 2] [ek 2, ek 3] [eh 5] l10 (L9.out.1.later k10) (L9.out.2.1.later k10) (by decide) (by decide) (by decide)
  rw [HD6.out, ex_lacks] at hl
  have KV10 := Lib.hid (KW9.out.trans k10)
  have KS10 := Lib.hid k10
  have T10 := Lib.hid t10
  have B10 := Lib.hid (blk19 B9.out.2.2.2 k10)
  have HL10 := Lib.hid hl
  clear k9 l9 k79 t10 l10 k10 hl B7 B8 L7 T8 HW8 R7 KS8 hb7 hV7 hW7
  go_wp2_with (first
    | (refine wpList_load_row (by rfl) 54 _ (by rfl) b1 (by rfl) 54 K1 (0, 0) _ B9.out.1 Try.underlying54 rfl SK.out.1.1 ?_)
    | (refine wpList_load_row (by rfl) 54 _ (by rfl) b2 (by rfl) 54 K2 (0, 0) _ B9.out.2.1 Try.underlying54 rfl SK.out.2.1.1 ?_)
    | (refine wpList_buildN19 (by rfl) 22 2 [(0, .tmp 26), (1, .tmp 27)] (by rfl) [(0, .agg K1), (1, .agg K2)] (by rfl) _ T10.out ?_)
    | (refine wpList_load_row (by rfl) 26 _ (by rfl) b4 (by rfl) 26 D6 (0, 0) _ B10.out Try.underlying26 rfl SD6.out.1 ?_)
    | fail)
  refine HL10.out.mono ?_
  rintro e w11 ⟨Q, qc, rfl, k11, l11⟩
  have KW11 := Lib.hid (KV10.out.trans k11)
  have k911 := KS10.out.trans k11
  have B11 := Lib.hid (And.intro (blk19 B9.out.1 k911) (And.intro (blk19 B9.out.2.2.1 k911) (blk19 B9.out.2.2.2 k911)))
  have L11 := Lib.hid (And.intro (L9.out.1.later k911) (And.intro (L9.out.2.1.later k911) (And.intro (L9.out.2.2.later k911) l11)))
  obtain ⟨g12, V12, t12, l12, k12⟩ := pair_hashes w11 5 6
  rw [HEQ.out.2.2.2.1, HEQ.out.2.2.2.2] at t12
  have hm := CC.out.misses V12 _ A6 B6 2 2 2 c6 1 d6 [eh 5, eh 6] [ek 2, ek 3] [eh 5] l12 (L11.out.1.later k12) (L11.out.2.1.later k12) (by decide) (by decide) (by decide)
  rw [HD6.out, ex_misses] at hm
  have KV12 := Lib.hid (KW11.out.trans k12)
  have KS12 := Lib.hid k12
  have T12 := Lib.hid t12
  have B12 := Lib.hid (blk19 B11.out.2.2 k12)
  have HM12 := Lib.hid hm
  clear k11 l11 k911 t12 l12 k12 hm B9 B10 L9 T10 HL10 KS10
  go_wp2_with (first
    | (refine wpList_made (by rfl) 52 [(0, .const (.int .u8 5))] (by rfl) [(0, .int .u8 5)] (by rfl) (.agg H5) HBH5.out ?_)
    | (refine wpList_made (by rfl) 52 [(0, .const (.int .u8 6))] (by rfl) [(0, .int .u8 6)] (by rfl) (.agg X6) HBX6.out ?_)
    | (refine wpList_buildN19 (by rfl) 23 2 [(0, .tmp 31), (1, .tmp 32)] (by rfl) [(0, .agg H5), (1, .agg X6)] (by rfl) _ T12.out ?_)
    | (refine wpList_load_row (by rfl) 26 _ (by rfl) b4 (by rfl) 26 D6 (0, 0) _ B12.out Try.underlying26 rfl SD6.out.1 ?_)
    | fail)
  refine HM12.out.mono ?_
  rintro e w13 ⟨M, mc, rfl, k13, m13⟩
  have KW13 := Lib.hid (KV12.out.trans k13)
  have k1113 := KS12.out.trans k13
  have B13 := Lib.hid (And.intro (blk19 B11.out.1 k1113) (And.intro (blk19 B11.out.2.1 k1113) (blk19 B11.out.2.2 k1113)))
  have L13 := Lib.hid (And.intro (L11.out.1.later k1113) (And.intro (L11.out.2.1.later k1113) (And.intro (L11.out.2.2.1.later k1113) (And.intro (L11.out.2.2.2.later k1113) m13))))
  have hp := CC.out.put w13 A6 B6 2 c6 1 d6 [ek 2, ek 3] [eh 5] L13.out.1 L13.out.2.1 (by decide) (by decide)
  obtain ⟨ep1, ep2, ep3⟩ := ex_put
  rw [HD6.out, ep1, ep2] at hp
  obtain ⟨bs, hbs⟩ : ∃ b, (Dg.put [ek 2, ek 3] [eh 5]).1 = b := ⟨_, rfl⟩
  rw [hbs] at hp ep3
  have HP13 := Lib.hid hp
  have HG := Lib.hid ep3
  clear k13 m13 k1113 hp ep1 ep2 ep3 hbs B11 B12 L11 T12 HM12 KS12
  go_wp2_with (first
    | (refine wpList_load_row (by rfl) 26 _ (by rfl) b4 (by rfl) 26 D6 (0, 0) _ B13.out.2.2 Try.underlying26 rfl SD6.out.1 ?_)
    | fail)
  refine HP13.out.mono ?_
  rintro e w14 ⟨N, nc, rfl, k14, b14⟩
  have KW14 := Lib.hid (KW13.out.trans k14)
  have B14 := Lib.hid (And.intro (blk19 B13.out.1 k14) (blk19 B13.out.2.1 k14))
  have L14 := Lib.hid (And.intro (L13.out.2.2.1.later k14) (And.intro (L13.out.2.2.2.1.later k14) (L13.out.2.2.2.2.later k14)))
  have hnl := b14.le
  have hnm := b14.max
  have hg := CC.out.get w14 N 114 nc bs b14 (by decide)
  rw [HG.out] at hg
  have HG14 := Lib.hid hg
  clear k14 b14 hg B13 L13 HP13 HG
  go_wp2_with fail
  refine HG14.out.mono ?_
  rintro e w15 ⟨Y1, ec1, Y2, ec2, rfl, k15, l15, m15⟩
  have l15' : LK w15 Y1 2 ec1 [ek 2, ek 3] := l15
  have m15' : LH w15 Y2 1 ec2 [eh 5] := m15
  obtain ⟨D9, hD9⟩ : ∃ D, dcs (.slice Y1 2 ec1) (.slice Y2 1 ec2) = D := ⟨_, rfl⟩
  have e9 : (Value.agg (dcs (Value.slice Y1 ([ek 2, ek 3] : List Ft.Key).length ec1) (Value.slice Y2 ([eh 5] : List (List UInt8)).length ec2))) = .agg D9 := by rw [← hD9]; rfl
  obtain ⟨b10, V16, W16, hb16, hV16, hW16, r16, r16', k16⟩ := lay_digest w15 26 D9 Z
  have SD9 : Hid ((Try.prog.info? 26).map (·.size) = some D9.size ∧ Z.size = D9.size ∧ D9.all (·.oneCell') = true) := Lib.hid ⟨by rw [← hD9]; exact size_G _ _, by rw [← hD9, ← HZ.out]; rfl, by rw [← hD9]; exact dcs_one _ _ _ _ _ _⟩
  have R16 := Lib.hid r16
  have KW16 := Lib.hid ((KW14.out.trans k15).trans k16)
  have k1416 := k15.trans k16
  have e16 : Row W16 b10 26 [.slice Y1 2 ec1, .slice Y2 1 ec2] := by show _ = _; rw [r16', ← hD9]; rfl
  obtain ⟨ap, rfl, _, hp0⟩ := keys_at (L14.out.1) (i := 0) (x := ek 3) rfl
  obtain ⟨aq, rfl, _, hq0⟩ := keys_at (L14.out.2.1) (i := 0) (x := ek 1) rfl
  obtain ⟨am, rfl, _, hm0⟩ := hashes_at (L14.out.2.2) (i := 0) (x := eh 6) rfl
  obtain ⟨ae, rfl, _, he1⟩ := keys_at l15' (i := 1) (x := ek 3) rfl
  obtain ⟨af, rfl, _, hf0⟩ := hashes_at m15' (i := 0) (x := eh 5) rfl
  have e16k := k1416
  have HB1 : Hid (∀ V, Later W16 V → V.heap[b1]? = some (.cells K1 54 (0, 0))) := Lib.hid (fun V hV => blk19 B14.out.1 (k1416.trans hV.out))
  have HB3 : Hid (∀ V, Later W16 V → V.heap[b3]? = some (.cells K3 54 (0, 0))) := Lib.hid (fun V hV => blk19 B14.out.2 (k1416.trans hV.out))
  have HC0 : Hid (∀ V, Later W16 V → V.cell? ⟨b10, 0, none⟩ = some (.slice (some ae) 2 ec1)) := Lib.hid (fun V hV => (e16.keeps hV.out id).cell 0)
  have HC1 : Hid (∀ V, Later W16 V → V.cell? ⟨b10, 1, none⟩ = some (.slice (some af) 1 ec2)) := Lib.hid (fun V hV => (e16.keeps hV.out id).cell 1)
  have s3 : (Try.prog.info? 54).map (·.size) = some (kcs (ek 3)).length := by rw [kcs_length (by simp [ek])]; exact info_k
  have s1 : (Try.prog.info? 54).map (·.size) = some (kcs (ek 1)).length := by rw [kcs_length (by simp [ek])]; exact info_k
  have s6 : (Try.prog.info? 52).map (·.size) = some (bvs (eh 6)).length := by rw [bvs_length, eh_ok]; exact info_h
  have s5 : (Try.prog.info? 52).map (·.size) = some (bvs (eh 5)).length := by rw [bvs_length, eh_ok]; exact info_h
  have q3 : ∀ V : World, (binOp .eql 54 (.agg (kcs (ek 3)).toArray) (.agg K3)).run Try.prog V = .ok (.bool true) V := fun V => by rw [← HEQ.out.2.2.1]; have h := run_eql_key (ek 3) (ek 3) (ek_ok 3 (by decide)) (ek_ok 3 (by decide)) V; rwa [decide_eq_true rfl] at h
  have q1 : ∀ V : World, (binOp .eql 54 (.agg (kcs (ek 1)).toArray) (.agg K1)).run Try.prog V = .ok (.bool true) V := fun V => by rw [← HEQ.out.1]; have h := run_eql_key (ek 1) (ek 1) (ek_ok 1 (by decide)) (ek_ok 1 (by decide)) V; rwa [decide_eq_true rfl] at h
  have q6 : ∀ V : World, (binOp .eql 52 (.agg (bvs (eh 6)).toArray) (.agg X6)).run Try.prog V = .ok (.bool true) V := fun V => by rw [← HEQ.out.2.2.2.2]; have h := run_eql_hash (eh 6) (eh 6) (eh_ok 6) (eh_ok 6) V; rwa [decide_eq_true rfl] at h
  have q5 : ∀ V : World, (binOp .eql 52 (.agg (bvs (eh 5)).toArray) (.agg H5)).run Try.prog V = .ok (.bool true) V := fun V => by rw [← HEQ.out.2.2.2.1]; have h := run_eql_hash (eh 5) (eh 5) (eh_ok 5) (eh_ok 5) V; rwa [decide_eq_true rfl] at h
  obtain ⟨L3, hL3⟩ : ∃ L, kcs (ek 3) = L := ⟨_, rfl⟩
  obtain ⟨L1, hL1⟩ : ∃ L, kcs (ek 1) = L := ⟨_, rfl⟩
  obtain ⟨X6L, hX6L⟩ : ∃ L, bvs (eh 6) = L := ⟨_, rfl⟩
  obtain ⟨H5L, hH5L⟩ : ∃ L, bvs (eh 5) = L := ⟨_, rfl⟩
  rw [hL3] at hp0 he1 s3 q3
  rw [hL1] at hq0 s1 q1
  rw [hX6L] at hm0 s6 q6
  rw [hH5L] at hf0 s5 q5
  have HP0 : Hid (∀ V, Later W16 V → ∀ j v, L3[j]? = some v → V.cell? ((ap.add (0 * 33)).add j) = some v) := Lib.hid (fun V hV j v hv => ((k1416.trans hV.out).cell (World.block_lt_of_cell? _ _ (hp0 j v hv)) id).trans (hp0 j v hv))
  have HQ0 : Hid (∀ V, Later W16 V → ∀ j v, L1[j]? = some v → V.cell? ((aq.add (0 * 33)).add j) = some v) := Lib.hid (fun V hV j v hv => ((k1416.trans hV.out).cell (World.block_lt_of_cell? _ _ (hq0 j v hv)) id).trans (hq0 j v hv))
  have HM0 : Hid (∀ V, Later W16 V → ∀ j v, X6L[j]? = some v → V.cell? ((am.add (0 * 32)).add j) = some v) := Lib.hid (fun V hV j v hv => ((k1416.trans hV.out).cell (World.block_lt_of_cell? _ _ (hm0 j v hv)) id).trans (hm0 j v hv))
  have HE1 : Hid (∀ V, Later W16 V → ∀ j v, L3[j]? = some v → V.cell? ((ae.add (1 * 33)).add j) = some v) := Lib.hid (fun V hV j v hv => ((k16.trans hV.out).cell (World.block_lt_of_cell? _ _ (he1 j v hv)) id).trans (he1 j v hv))
  have HF0 : Hid (∀ V, Later W16 V → ∀ j v, H5L[j]? = some v → V.cell? ((af.add (0 * 32)).add j) = some v) := Lib.hid (fun V hV j v hv => ((k16.trans hV.out).cell (World.block_lt_of_cell? _ _ (hf0 j v hv)) id).trans (hf0 j v hv))
  have SL3 := Lib.hid s3
  have SL1 := Lib.hid s1
  have SX6 := Lib.hid s6
  have SH5 := Lib.hid s5
  have SK3 := Lib.hid SK.out.2.2.1
  have SK1 := Lib.hid SK.out.1.1
  have E3 := Lib.hid q3
  have E1 := Lib.hid q1
  have E6 := Lib.hid q6
  have E5 := Lib.hid q5
  have hpl := L14.out.1.le
  rw [e9]
  clear k15 l15 m15 l15' m15' hD9 e9 r16 r16' k16 k1416 e16 e16k hp0 hq0 hm0 he1 hf0 s3 s1 s6 s5 q3 q1 q6 q5 hL3 hL1 hX6L hH5L HG14 hpl
  go_wp2_with (first
    | (refine wpList_store_row (by rfl) 26 _ _ (by rfl) b10 D9 (by rfl) (by rfl) 26 Z R16.out SD9.out.1 SD9.out.2.1 SD9.out.2.2 ?_; rw [hW16])
    | fail)
  refine wp_region_class (Later W16) (by kernel_rfl) (by kernel_rfl) (⟨(Keeps.refl _ _).drew⟩) ?_
  refine class_value (by rfl) (.slice (some ap) 1 pc) (fun V hV => by go_simp) ?_
  simp only [Act.put, List.setIfInBounds_toArray, List.set_cons_zero, List.set_cons_succ]
  refine class_value (by rfl) (.int .i64 1) (fun V hV => by go_simp) ?_
  simp only [Act.put, List.setIfInBounds_toArray, List.set_cons_zero, List.set_cons_succ]
  refine class_value (by rfl) (.bool true) (fun V hV => by go_simp) ?_
  simp only [Act.put, List.setIfInBounds_toArray, List.set_cons_zero, List.set_cons_succ]
  refine class_value (by rfl) (.bool true) (fun V hV => by go_simp) ?_
  simp only [Act.put, List.setIfInBounds_toArray, List.set_cons_zero, List.set_cons_succ]
  refine class_value (by rfl) (.slice (some ap) 1 pc) (fun V hV => by go_simp) ?_
  simp only [Act.put, List.setIfInBounds_toArray, List.set_cons_zero, List.set_cons_succ]
  refine class_value (by rfl) (.pointer (some (ap.add (0 * 33)))) (fun V hV => by go_simp) ?_
  simp only [Act.put, List.setIfInBounds_toArray, List.set_cons_zero, List.set_cons_succ]
  refine class_any (by rfl) 54 (.tmp 51) (by rfl) (ap.add (0 * 33)) (by rfl) L3 _ (fun V hV => HP0.out V hV) Try.underlying54 rfl SL3.out ?_
  simp only [Act.put, List.setIfInBounds_toArray, List.set_cons_zero, List.set_cons_succ]
  refine class_load (by rfl) 54 (.tmp 3) (by rfl) b3 (by rfl) _ K3 _ _ (fun V hV => HB3.out V hV) Try.underlying54 rfl SK3.out ?_
  simp only [Act.put, List.setIfInBounds_toArray, List.set_cons_zero, List.set_cons_succ]
  refine class_eq (by rfl) .eql 54 _ (.tmp 52) (.tmp 53) (by rfl) L3.toArray K3 (by rfl) (by rfl) (by kernel_rfl) (.bool true) (E3.out) ?_
  simp only [Act.put, List.setIfInBounds_toArray, List.set_cons_zero, List.set_cons_succ]
  refine class_value (by rfl) (.bool true) (fun V hV => by go_simp) ?_
  simp only [Act.put, List.setIfInBounds_toArray, List.set_cons_zero, List.set_cons_succ]
  refine class_value (by rfl) (.bool true) (fun V hV => by go_simp) ?_
  simp only [Act.put, List.setIfInBounds_toArray, List.set_cons_zero, List.set_cons_succ]
  refine class_value (by rfl) (.slice (some aq) 1 qc) (fun V hV => by go_simp) ?_
  simp only [Act.put, List.setIfInBounds_toArray, List.set_cons_zero, List.set_cons_succ]
  refine class_value (by rfl) (.int .i64 1) (fun V hV => by go_simp) ?_
  simp only [Act.put, List.setIfInBounds_toArray, List.set_cons_zero, List.set_cons_succ]
  refine class_value (by rfl) (.bool true) (fun V hV => by go_simp) ?_
  simp only [Act.put, List.setIfInBounds_toArray, List.set_cons_zero, List.set_cons_succ]
  refine class_value (by rfl) (.bool true) (fun V hV => by go_simp) ?_
  simp only [Act.put, List.setIfInBounds_toArray, List.set_cons_zero, List.set_cons_succ]
  refine class_value (by rfl) (.bool true) (fun V hV => by go_simp) ?_
  simp only [Act.put, List.setIfInBounds_toArray, List.set_cons_zero, List.set_cons_succ]
  refine class_value (by rfl) (.slice (some aq) 1 qc) (fun V hV => by go_simp) ?_
  simp only [Act.put, List.setIfInBounds_toArray, List.set_cons_zero, List.set_cons_succ]
  refine class_value (by rfl) (.pointer (some (aq.add (0 * 33)))) (fun V hV => by go_simp) ?_
  simp only [Act.put, List.setIfInBounds_toArray, List.set_cons_zero, List.set_cons_succ]
  refine class_any (by rfl) 54 (.tmp 63) (by rfl) (aq.add (0 * 33)) (by rfl) L1 _ (fun V hV => HQ0.out V hV) Try.underlying54 rfl SL1.out ?_
  simp only [Act.put, List.setIfInBounds_toArray, List.set_cons_zero, List.set_cons_succ]
  refine class_load (by rfl) 54 (.tmp 1) (by rfl) b1 (by rfl) _ K1 _ _ (fun V hV => HB1.out V hV) Try.underlying54 rfl SK1.out ?_
  simp only [Act.put, List.setIfInBounds_toArray, List.set_cons_zero, List.set_cons_succ]
  refine class_eq (by rfl) .eql 54 _ (.tmp 64) (.tmp 65) (by rfl) L1.toArray K1 (by rfl) (by rfl) (by kernel_rfl) (.bool true) (E1.out) ?_
  simp only [Act.put, List.setIfInBounds_toArray, List.set_cons_zero, List.set_cons_succ]
  refine class_value (by rfl) (.bool true) (fun V hV => by go_simp) ?_
  simp only [Act.put, List.setIfInBounds_toArray, List.set_cons_zero, List.set_cons_succ]
  refine class_value (by rfl) (.bool true) (fun V hV => by go_simp) ?_
  simp only [Act.put, List.setIfInBounds_toArray, List.set_cons_zero, List.set_cons_succ]
  refine class_value (by rfl) (.slice (some am) 1 mc) (fun V hV => by go_simp) ?_
  simp only [Act.put, List.setIfInBounds_toArray, List.set_cons_zero, List.set_cons_succ]
  refine class_value (by rfl) (.int .i64 1) (fun V hV => by go_simp) ?_
  simp only [Act.put, List.setIfInBounds_toArray, List.set_cons_zero, List.set_cons_succ]
  refine class_value (by rfl) (.bool true) (fun V hV => by go_simp) ?_
  simp only [Act.put, List.setIfInBounds_toArray, List.set_cons_zero, List.set_cons_succ]
  refine class_value (by rfl) (.bool true) (fun V hV => by go_simp) ?_
  simp only [Act.put, List.setIfInBounds_toArray, List.set_cons_zero, List.set_cons_succ]
  refine class_value (by rfl) (.bool true) (fun V hV => by go_simp) ?_
  simp only [Act.put, List.setIfInBounds_toArray, List.set_cons_zero, List.set_cons_succ]
  refine class_value (by rfl) (.slice (some am) 1 mc) (fun V hV => by go_simp) ?_
  simp only [Act.put, List.setIfInBounds_toArray, List.set_cons_zero, List.set_cons_succ]
  refine class_value (by rfl) (.pointer (some (am.add (0 * 32)))) (fun V hV => by go_simp) ?_
  simp only [Act.put, List.setIfInBounds_toArray, List.set_cons_zero, List.set_cons_succ]
  refine class_any (by rfl) 52 (.tmp 75) (by rfl) (am.add (0 * 32)) (by rfl) X6L _ (fun V hV => HM0.out V hV) Try.underlying52 rfl SX6.out ?_
  simp only [Act.put, List.setIfInBounds_toArray, List.set_cons_zero, List.set_cons_succ]
  refine class_value (by rfl) (.agg X6) (fun V hV => by go_simp; exact HEQ.out.2.2.2.2) ?_
  simp only [Act.put, List.setIfInBounds_toArray, List.set_cons_zero, List.set_cons_succ]
  refine class_eq (by rfl) .eql 52 _ (.tmp 76) (.tmp 77) (by rfl) X6L.toArray X6 (by rfl) (by rfl) (by kernel_rfl) (.bool true) (E6.out) ?_
  simp only [Act.put, List.setIfInBounds_toArray, List.set_cons_zero, List.set_cons_succ]
  refine class_value (by rfl) (.bool true) (fun V hV => by go_simp) ?_
  simp only [Act.put, List.setIfInBounds_toArray, List.set_cons_zero, List.set_cons_succ]
  refine class_value (by rfl) (.bool true) (fun V hV => by go_simp) ?_
  simp only [Act.put, List.setIfInBounds_toArray, List.set_cons_zero, List.set_cons_succ]
  refine class_value (by rfl) (.int .i64 0) (fun V hV => by go_simp) ?_
  simp only [Act.put, List.setIfInBounds_toArray, List.set_cons_zero, List.set_cons_succ]
  refine class_value (by rfl) (.bool true) (fun V hV => by go_simp) ?_
  simp only [Act.put, List.setIfInBounds_toArray, List.set_cons_zero, List.set_cons_succ]
  refine class_value (by rfl) (.bool true) (fun V hV => by go_simp) ?_
  simp only [Act.put, List.setIfInBounds_toArray, List.set_cons_zero, List.set_cons_succ]
  refine class_value (by rfl) (.bool true) (fun V hV => by go_simp) ?_
  simp only [Act.put, List.setIfInBounds_toArray, List.set_cons_zero, List.set_cons_succ]
  refine class_value (by rfl) (.slice N 114 nc) (fun V hV => by go_simp) ?_
  simp only [Act.put, List.setIfInBounds_toArray, List.set_cons_zero, List.set_cons_succ]
  refine class_value (by rfl) (.int .i64 114) (fun V hV => by go_simp) ?_
  simp only [Act.put, List.setIfInBounds_toArray, List.set_cons_zero, List.set_cons_succ]
  refine class_value (by rfl) (.bool true) (fun V hV => by go_simp) ?_
  simp only [Act.put, List.setIfInBounds_toArray, List.set_cons_zero, List.set_cons_succ]
  refine class_value (by rfl) (.bool true) (fun V hV => by go_simp) ?_
  simp only [Act.put, List.setIfInBounds_toArray, List.set_cons_zero, List.set_cons_succ]
  refine class_value (by rfl) (.bool true) (fun V hV => by go_simp) ?_
  simp only [Act.put, List.setIfInBounds_toArray, List.set_cons_zero, List.set_cons_succ]
  refine class_value (by rfl) (.int .i64 0) (fun V hV => by go_simp) ?_
  simp only [Act.put, List.setIfInBounds_toArray, List.set_cons_zero, List.set_cons_succ]
  refine class_value (by rfl) (.bool true) (fun V hV => by go_simp) ?_
  simp only [Act.put, List.setIfInBounds_toArray, List.set_cons_zero, List.set_cons_succ]
  refine class_value (by rfl) (.bool true) (fun V hV => by go_simp) ?_
  simp only [Act.put, List.setIfInBounds_toArray, List.set_cons_zero, List.set_cons_succ]
  refine class_value (by rfl) (.bool true) (fun V hV => by go_simp) ?_
  simp only [Act.put, List.setIfInBounds_toArray, List.set_cons_zero, List.set_cons_succ]
  refine class_value (by rfl) (.pointer (some ⟨b10, 0, none⟩)) (fun V hV => by go_simp) ?_
  simp only [Act.put, List.setIfInBounds_toArray, List.set_cons_zero, List.set_cons_succ]
  refine class_cell (by rfl) 22 (.tmp 94) (by rfl) ⟨b10, 0, none⟩ (by rfl) (.slice (some ae) 2 ec1) _ (fun V hV => HC0.out V hV) Try.underlying22 rfl ?_
  simp only [Act.put, List.setIfInBounds_toArray, List.set_cons_zero, List.set_cons_succ]
  refine class_value (by rfl) (.int .i64 2) (fun V hV => by go_simp) ?_
  simp only [Act.put, List.setIfInBounds_toArray, List.set_cons_zero, List.set_cons_succ]
  refine class_value (by rfl) (.bool true) (fun V hV => by go_simp) ?_
  simp only [Act.put, List.setIfInBounds_toArray, List.set_cons_zero, List.set_cons_succ]
  refine class_value (by rfl) (.bool true) (fun V hV => by go_simp) ?_
  simp only [Act.put, List.setIfInBounds_toArray, List.set_cons_zero, List.set_cons_succ]
  refine class_value (by rfl) (.bool true) (fun V hV => by go_simp) ?_
  simp only [Act.put, List.setIfInBounds_toArray, List.set_cons_zero, List.set_cons_succ]
  refine class_value (by rfl) (.pointer (some ⟨b10, 0, none⟩)) (fun V hV => by go_simp) ?_
  simp only [Act.put, List.setIfInBounds_toArray, List.set_cons_zero, List.set_cons_succ]
  refine class_cell (by rfl) 22 (.tmp 100) (by rfl) ⟨b10, 0, none⟩ (by rfl) (.slice (some ae) 2 ec1) _ (fun V hV => HC0.out V hV) Try.underlying22 rfl ?_
  simp only [Act.put, List.setIfInBounds_toArray, List.set_cons_zero, List.set_cons_succ]
  refine class_value (by rfl) (.pointer (some (ae.add (1 * 33)))) (fun V hV => by go_simp) ?_
  simp only [Act.put, List.setIfInBounds_toArray, List.set_cons_zero, List.set_cons_succ]
  refine class_any (by rfl) 54 (.tmp 102) (by rfl) (ae.add (1 * 33)) (by rfl) L3 _ (fun V hV => HE1.out V hV) Try.underlying54 rfl SL3.out ?_
  simp only [Act.put, List.setIfInBounds_toArray, List.set_cons_zero, List.set_cons_succ]
  refine class_load (by rfl) 54 (.tmp 3) (by rfl) b3 (by rfl) _ K3 _ _ (fun V hV => HB3.out V hV) Try.underlying54 rfl SK3.out ?_
  simp only [Act.put, List.setIfInBounds_toArray, List.set_cons_zero, List.set_cons_succ]
  refine class_eq (by rfl) .eql 54 _ (.tmp 103) (.tmp 104) (by rfl) L3.toArray K3 (by rfl) (by rfl) (by kernel_rfl) (.bool true) (E3.out) ?_
  simp only [Act.put, List.setIfInBounds_toArray, List.set_cons_zero, List.set_cons_succ]
  refine class_value (by rfl) (.bool true) (fun V hV => by go_simp) ?_
  simp only [Act.put, List.setIfInBounds_toArray, List.set_cons_zero, List.set_cons_succ]
  refine class_value (by rfl) (.bool true) (fun V hV => by go_simp) ?_
  simp only [Act.put, List.setIfInBounds_toArray, List.set_cons_zero, List.set_cons_succ]
  refine class_value (by rfl) (.pointer (some ⟨b10, 1, none⟩)) (fun V hV => by go_simp) ?_
  simp only [Act.put, List.setIfInBounds_toArray, List.set_cons_zero, List.set_cons_succ]
  refine class_cell (by rfl) 23 (.tmp 108) (by rfl) ⟨b10, 1, none⟩ (by rfl) (.slice (some af) 1 ec2) _ (fun V hV => HC1.out V hV) Try.underlying23 rfl ?_
  simp only [Act.put, List.setIfInBounds_toArray, List.set_cons_zero, List.set_cons_succ]
  refine class_value (by rfl) (.pointer (some (af.add (0 * 32)))) (fun V hV => by go_simp) ?_
  simp only [Act.put, List.setIfInBounds_toArray, List.set_cons_zero, List.set_cons_succ]
  refine class_any (by rfl) 52 (.tmp 110) (by rfl) (af.add (0 * 32)) (by rfl) H5L _ (fun V hV => HF0.out V hV) Try.underlying52 rfl SH5.out ?_
  simp only [Act.put, List.setIfInBounds_toArray, List.set_cons_zero, List.set_cons_succ]
  refine class_value (by rfl) (.agg H5) (fun V hV => by go_simp; exact HEQ.out.2.2.2.1) ?_
  simp only [Act.put, List.setIfInBounds_toArray, List.set_cons_zero, List.set_cons_succ]
  refine class_eq (by rfl) .eql 52 _ (.tmp 111) (.tmp 112) (by rfl) H5L.toArray H5 (by rfl) (by rfl) (by kernel_rfl) (.bool true) (E5.out) ?_
  simp only [Act.put, List.setIfInBounds_toArray, List.set_cons_zero, List.set_cons_succ]
  refine class_value (by rfl) (.bool true) (fun V hV => by go_simp) ?_
  simp only [Act.put, List.setIfInBounds_toArray, List.set_cons_zero, List.set_cons_succ]
  refine class_value (by rfl) (.bool true) (fun V hV => by go_simp) ?_
  simp only [Act.put, List.setIfInBounds_toArray, List.set_cons_zero]
  refine wpQuiet_nil ?_
  intro V17 k17
  have K17 := Lib.hid (KW16.out.trans k17.out)
  clear k17
  go_wp2
  go_ret
  exact ⟨rfl, K17.out⟩
end Go.Proofs.Ytmjpaopobnhckaa
