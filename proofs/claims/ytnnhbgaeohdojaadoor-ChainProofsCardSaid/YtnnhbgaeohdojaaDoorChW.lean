/-
  The document's example of layer 4 holds: 'awake' returns true, and leaves all that was as it was. WRITTEN BY wip/gen/mkchw.py.
-/
import Derived.Test.YtnnhbgaeohdojaaDoorChC
import Derived.Test.YtnnhbgaeohdojaaDoorChE
import Derived.Test.YtnnhbgaeohdojaaDoorTrL
namespace Go.Proofs.YtnnhbgaeohdojaaDoor
open Go.RowKit Go.BigFrame
set_option linter.unusedVariables false

theorem keyCells_length (s : Nat) (r : List UInt8) (h : r.length = 32) : (keyCells s r).length = 33 := by unfold keyCells; rw [List.length_cons, bvs_length, h]
theorem keyCells_one (s : Nat) (r : List UInt8) : (keyCells s r).toArray.all (·.oneCell') = true := by
  rw [Array.all_eq_true_iff_forall_mem]
  intro v hv
  have hv : v ∈ keyCells s r := by simpa using hv
  unfold keyCells at hv
  rcases List.mem_cons.1 hv with h | h
  · rw [h]; rfl
  · exact bvs_one r v h
theorem size_key : (Tryd.prog.info? 72).map (·.size) = some 33 := by kernel_rfl
theorem hash32 (r : List UInt8) (h : r.length = 32) : ∃ b0 b1 b2 b3 b4 b5 b6 b7 b8 b9 b10 b11 b12 b13 b14 b15 b16 b17 b18 b19 b20 b21 b22 b23 b24 b25 b26 b27 b28 b29 b30 b31 : UInt8, r = [b0, b1, b2, b3, b4, b5, b6, b7, b8, b9, b10, b11, b12, b13, b14, b15, b16, b17, b18, b19, b20, b21, b22, b23, b24, b25, b26, b27, b28, b29, b30, b31] := by
  match r, h with
  | [b0, b1, b2, b3, b4, b5, b6, b7, b8, b9, b10, b11, b12, b13, b14, b15, b16, b17, b18, b19, b20, b21, b22, b23, b24, b25, b26, b27, b28, b29, b30, b31], _ => exact ⟨b0, b1, b2, b3, b4, b5, b6, b7, b8, b9, b10, b11, b12, b13, b14, b15, b16, b17, b18, b19, b20, b21, b22, b23, b24, b25, b26, b27, b28, b29, b30, b31, rfl⟩
theorem build_key (s : Nat) (r : List UInt8) (h : r.length = 32) (W : World) : (Instr.build 72 #[(0, .int .u64 (s : Int)), (1, .agg (bvs r).toArray)]).run Tryd.prog W = .ok (.agg (keyCells s r).toArray) W := by
  obtain ⟨b0, b1, b2, b3, b4, b5, b6, b7, b8, b9, b10, b11, b12, b13, b14, b15, b16, b17, b18, b19, b20, b21, b22, b23, b24, b25, b26, b27, b28, b29, b30, b31, rfl⟩ := hash32 r h
  kernel_rfl
theorem zero_key1 (w : World) : (zeroValue 72).run Tryd.prog w = .ok (.agg (keyCells 0 (List.replicate 32 0)).toArray) w := by kernel_rfl
theorem zero_key : ∃ Z : Array Value, (∀ w : World, (zeroValue 72).run Tryd.prog w = .ok (.agg Z) w) ∧ Z.size = 33 := ⟨_, zero_key1, rfl⟩
/-- A struct is built, by its run. -/
theorem wpList_build_runs {P : Program} {ops : Array Oper} {rest : List Oper} {o : Oper} {a : Act} {w : World} {Q : Exit → Act → World → Prop} (hw : Region.wanted o (yielded ops a.tmps) = true) (t : TypeId) (parts : List (Nat × Operand)) (ho : o.op = .build t parts.toArray) (vs : List (Nat × Value)) (hx : parts.map (fun (i, x) => (i, a.eval x)) = vs)
    (v : Value) (hrun : (Instr.build t vs.toArray).run P w = .ok v w) (h : wpList P ops Q rest (a.put o.dst v) w) : wpList P ops Q (o :: rest) a w := by
  refine wpList_wanted hw fun K hK => ?_
  unfold Oper.wp execOp
  simp only [ho, List.map_toArray, hx, Sem.run_bind, Sem.run_pure, Result.andThen_ok, hrun]
  exact hK _ _ h
def rowVal (r : RowOf) : Value := .slice r.1 r.2.2.length r.2.1
theorem rowsAt_map {w : World} {b : Nat} {t : TypeId} {rs : List RowOf} (h : Row w b t (rs.map rowVal)) (hs : ∀ r ∈ rs, Src w r.1 (bvs r.2.2)) (hc : ∀ r ∈ rs, r.2.2.length ≤ r.2.1 ∧ r.2.1 ≤ 9223372036854775807) : RowsAt w (some ⟨b, 0, none⟩) rs := by
  refine ⟨fun i r hr => ⟨_, rfl, ?_⟩, hs, hc⟩
  rw [add_plain, Nat.zero_add, h.cell, List.getElem?_map, hr]
  rfl
theorem all_seven {α : Type} {p : α → Prop} {a b c d e f g : α} (ha : p a) (hb : p b) (hc : p c) (hd : p d) (he : p e) (hf : p f) (hg : p g) : ∀ x ∈ [a, b, c, d, e, f, g], p x := by
  intro x hx
  simp only [List.mem_cons, List.not_mem_nil, or_false] at hx
  rcases hx with rfl | rfl | rfl | rfl | rfl | rfl | rfl <;> assumption
theorem lng_37 : Tr.lng 3 7 true = 4 := by decide
theorem clong_37 : Tr.clong 3 7 = 4 := by decide
theorem clong_47 : Tr.clong 4 7 = 1 := by decide
theorem clong_77 : Tr.clong 7 7 = 0 := by decide
set_option maxRecDepth 100000 in
set_option maxHeartbeats 2000000 in
theorem awake4_any (w : World) (hT : Tabs w) :
    Calls Tryd.prog 21 #[] w fun e w' => e = .returned (.bool true) ∧ Keeps (fun _ => False) w w' := by
  obtain ⟨W1, hW1⟩ : ∃ W, w.alloc (.cells #[.int .u8 97] 5 (1, 2)) = W := ⟨_, rfl⟩
  obtain ⟨W2, hW2⟩ : ∃ W, W1.alloc (.cells #[.int .u8 98] 5 (1, 2)) = W := ⟨_, rfl⟩
  obtain ⟨W3, hW3⟩ : ∃ W, W2.alloc (.cells #[.int .u8 99] 5 (1, 2)) = W := ⟨_, rfl⟩
  obtain ⟨W4, hW4⟩ : ∃ W, W3.alloc (.cells #[.int .u8 100] 5 (1, 2)) = W := ⟨_, rfl⟩
  obtain ⟨W5, hW5⟩ : ∃ W, W4.alloc (.cells #[.int .u8 101] 5 (1, 2)) = W := ⟨_, rfl⟩
  obtain ⟨W6, hW6⟩ : ∃ W, W5.alloc (.cells #[.int .u8 102] 5 (1, 2)) = W := ⟨_, rfl⟩
  obtain ⟨W7, hW7⟩ : ∃ W, W6.alloc (.cells #[.int .u8 103] 5 (1, 2)) = W := ⟨_, rfl⟩
  obtain ⟨W8, hW8⟩ : ∃ W, W7.alloc (.cells #[.slice (some ⟨w.heap.size, 0, none⟩) 1 1, .slice (some ⟨W1.heap.size, 0, none⟩) 1 1, .slice (some ⟨W2.heap.size, 0, none⟩) 1 1, .slice (some ⟨W3.heap.size, 0, none⟩) 1 1, .slice (some ⟨W4.heap.size, 0, none⟩) 1 1, .slice (some ⟨W5.heap.size, 0, none⟩) 1 1, .slice (some ⟨W6.heap.size, 0, none⟩) 1 1] 55) = W := ⟨_, rfl⟩
  have k1 : Keeps (fun _ => False) w W1 := by rw [← hW1]; exact (Keeps.refl _ _).alloc _
  have k2 : Keeps (fun _ => False) W1 W2 := by rw [← hW2]; exact (Keeps.refl _ _).alloc _
  have k3 : Keeps (fun _ => False) W2 W3 := by rw [← hW3]; exact (Keeps.refl _ _).alloc _
  have k4 : Keeps (fun _ => False) W3 W4 := by rw [← hW4]; exact (Keeps.refl _ _).alloc _
  have k5 : Keeps (fun _ => False) W4 W5 := by rw [← hW5]; exact (Keeps.refl _ _).alloc _
  have k6 : Keeps (fun _ => False) W5 W6 := by rw [← hW6]; exact (Keeps.refl _ _).alloc _
  have k7 : Keeps (fun _ => False) W6 W7 := by rw [← hW7]; exact (Keeps.refl _ _).alloc _
  have k8 : Keeps (fun _ => False) W7 W8 := by rw [← hW8]; exact (Keeps.refl _ _).alloc _
  have s1 : Src W1 (some ⟨w.heap.size, 0, none⟩) (bvs [97]) := by rw [← hW1]; exact src_blk (fr := (1, 2)) (t := 5) (heap_alloc_new w _)
  have s2 : Src W2 (some ⟨W1.heap.size, 0, none⟩) (bvs [98]) := by rw [← hW2]; exact src_blk (fr := (1, 2)) (t := 5) (heap_alloc_new W1 _)
  have s3 : Src W3 (some ⟨W2.heap.size, 0, none⟩) (bvs [99]) := by rw [← hW3]; exact src_blk (fr := (1, 2)) (t := 5) (heap_alloc_new W2 _)
  have s4 : Src W4 (some ⟨W3.heap.size, 0, none⟩) (bvs [100]) := by rw [← hW4]; exact src_blk (fr := (1, 2)) (t := 5) (heap_alloc_new W3 _)
  have s5 : Src W5 (some ⟨W4.heap.size, 0, none⟩) (bvs [101]) := by rw [← hW5]; exact src_blk (fr := (1, 2)) (t := 5) (heap_alloc_new W4 _)
  have s6 : Src W6 (some ⟨W5.heap.size, 0, none⟩) (bvs [102]) := by rw [← hW6]; exact src_blk (fr := (1, 2)) (t := 5) (heap_alloc_new W5 _)
  have s7 : Src W7 (some ⟨W6.heap.size, 0, none⟩) (bvs [103]) := by rw [← hW7]; exact src_blk (fr := (1, 2)) (t := 5) (heap_alloc_new W6 _)
  have t1 : Src W8 (some ⟨w.heap.size, 0, none⟩) (bvs [97]) := s1.keeps (((((((k2).trans k3).trans k4).trans k5).trans k6).trans k7).trans k8) (fun _ _ _ => id)
  have t2 : Src W8 (some ⟨W1.heap.size, 0, none⟩) (bvs [98]) := s2.keeps ((((((k3).trans k4).trans k5).trans k6).trans k7).trans k8) (fun _ _ _ => id)
  have t3 : Src W8 (some ⟨W2.heap.size, 0, none⟩) (bvs [99]) := s3.keeps (((((k4).trans k5).trans k6).trans k7).trans k8) (fun _ _ _ => id)
  have t4 : Src W8 (some ⟨W3.heap.size, 0, none⟩) (bvs [100]) := s4.keeps ((((k5).trans k6).trans k7).trans k8) (fun _ _ _ => id)
  have t5 : Src W8 (some ⟨W4.heap.size, 0, none⟩) (bvs [101]) := s5.keeps (((k6).trans k7).trans k8) (fun _ _ _ => id)
  have t6 : Src W8 (some ⟨W5.heap.size, 0, none⟩) (bvs [102]) := s6.keeps ((k7).trans k8) (fun _ _ _ => id)
  have t7 : Src W8 (some ⟨W6.heap.size, 0, none⟩) (bvs [103]) := s7.keeps (k8) (fun _ _ _ => id)
  have r8 : Row W8 W7.heap.size 55 [.slice (some ⟨w.heap.size, 0, none⟩) 1 1, .slice (some ⟨W1.heap.size, 0, none⟩) 1 1, .slice (some ⟨W2.heap.size, 0, none⟩) 1 1, .slice (some ⟨W3.heap.size, 0, none⟩) 1 1, .slice (some ⟨W4.heap.size, 0, none⟩) 1 1, .slice (some ⟨W5.heap.size, 0, none⟩) 1 1, .slice (some ⟨W6.heap.size, 0, none⟩) 1 1] := by rw [← hW8]; exact heap_alloc_new W7 _
  have kk : Keeps (fun _ => False) w W8 := (((((((k1).trans k2).trans k3).trans k4).trans k5).trans k6).trans k7).trans k8
  have hT8 := hT.keeps kk id id
  obtain ⟨rs, hrs⟩ : ∃ rs : List RowOf, [(some ⟨w.heap.size, 0, none⟩, 1, [97]), (some ⟨W1.heap.size, 0, none⟩, 1, [98]), (some ⟨W2.heap.size, 0, none⟩, 1, [99]), (some ⟨W3.heap.size, 0, none⟩, 1, [100]), (some ⟨W4.heap.size, 0, none⟩, 1, [101]), (some ⟨W5.heap.size, 0, none⟩, 1, [102]), (some ⟨W6.heap.size, 0, none⟩, 1, [103])] = rs := ⟨_, rfl⟩
  have hlen7 : rs.length = 7 := by rw [← hrs]; rfl
  have hshort : ∀ r ∈ rs, r.2.2.length ≤ 1000 := by rw [← hrs]; exact all_seven (p := fun r : RowOf => r.2.2.length ≤ 1000) (by simp) (by simp) (by simp) (by simp) (by simp) (by simp) (by simp)
  have hrows : RowsAt W8 (some ⟨W7.heap.size, 0, none⟩) rs := by
    refine rowsAt_map (t := 55) ?_ ?_ ?_
    · rw [← hrs]; exact r8
    · rw [← hrs]; exact all_seven (p := fun r : RowOf => Src W8 r.1 (bvs r.2.2)) t1 t2 t3 t4 t5 t6 t7
    · rw [← hrs]; exact all_seven (p := fun r : RowOf => r.2.2.length ≤ r.2.1 ∧ r.2.1 ≤ 9223372036854775807) ⟨Nat.le_refl _, by show (1 : Nat) ≤ _; omega⟩ ⟨Nat.le_refl _, by show (1 : Nat) ≤ _; omega⟩ ⟨Nat.le_refl _, by show (1 : Nat) ≤ _; omega⟩ ⟨Nat.le_refl _, by show (1 : Nat) ≤ _; omega⟩ ⟨Nat.le_refl _, by show (1 : Nat) ≤ _; omega⟩ ⟨Nat.le_refl _, by show (1 : Nat) ≤ _; omega⟩ ⟨Nat.le_refl _, by show (1 : Nat) ≤ _; omega⟩
  have hproof := proof_in ⟨W7.heap.size, 0, none⟩ 7 rs 3 W8 hT8 hrows (by omega) (by omega) (by omega) (by omega) hshort (by omega)
  have hpl := Tr.prf_long (ents rs) 3 true (by omega) (by rw [ents_length]; omega) (by rw [ents_length]; omega)
  rw [ents_length, hlen7, lng_37] at hpl
  have hpm := Tr.prf_made (ents rs) 3 true (Tr.root ((ents rs).take 3)) (by omega) (by rw [ents_length]; omega) (by rw [ents_length]; omega) (fun _ => rfl)
  rw [ents_length, hlen7] at hpm
  have hpall : ∀ x ∈ Tr.prf (ents rs) 3 true, x.length = 32 := fun x hx => Tr.prf_all _ _ _ _ x hx
  have e3 : (ents rs).take 3 = ents (rs.take 3) := by simp [ents, List.map_take]
  have l3 : (rs.take 3).length = 3 := by rw [List.length_take]; omega
  have hroot7 : ∀ V, Keeps (fun _ => False) W8 V → Calls Tryd.prog 16 #[.slice (some ⟨W7.heap.size, 0, none⟩) 7 7] V fun e w' => e = .returned (.agg (bvs (Tr.root (ents rs))).toArray) ∧ Keeps (fun _ => False) V w' := fun V hk => by
    have h := root_any (some ⟨W7.heap.size, 0, none⟩) 7 rs V (hT8.keeps hk id id) (hrows.keeps hk (fun _ _ => id)) (by omega) (by omega) hshort
    rw [hlen7] at h
    exact h
  have hroot3 : ∀ V, Keeps (fun _ => False) W8 V → Calls Tryd.prog 16 #[.slice (some ⟨W7.heap.size, 0, none⟩) 3 7] V fun e w' => e = .returned (.agg (bvs (Tr.root ((ents rs).take 3))).toArray) ∧ Keeps (fun _ => False) V w' := fun V hk => by
    have h := root_any (some ⟨W7.heap.size, 0, none⟩) 7 (rs.take 3) V (hT8.keeps hk id id) ((hrows.take 3).keeps hk (fun _ _ => id)) (by omega) (by omega) (fun r hr => hshort r (List.mem_of_mem_take hr))
    rw [l3, ← e3] at h
    exact h
  have hR7 : (Tr.root (ents rs)).length = 32 := Tr.root_length _
  have hR3 : (Tr.root ((ents rs).take 3)).length = 32 := Tr.root_length _
  obtain ⟨ps, hps⟩ : ∃ ps, Tr.prf (ents rs) 3 true = ps := ⟨_, rfl⟩
  obtain ⟨r7, hr7⟩ : ∃ r, Tr.root (ents rs) = r := ⟨_, rfl⟩
  obtain ⟨r3, hr3⟩ : ∃ r, Tr.root ((ents rs).take 3) = r := ⟨_, rfl⟩
  rw [hps] at hproof hpl hpm hpall
  rw [hr7] at hroot7 hpm hR7
  rw [hr3] at hroot3 hpm hR3
  rw [hlen7, hpl] at hproof
  have cv0 : Tr.cverify 3 r3 7 r7 ps = 0 := by
    unfold Tr.cverify
    rw [if_neg (by omega), if_pos (by rw [hpl, lng_37]), hpm, if_pos ⟨rfl, rfl⟩]
  have cv15 : Tr.cverify 7 r7 3 r3 ps = 15 := by unfold Tr.cverify; rw [if_pos (by omega)]
  have lp3 : (ps.take 3).length = 3 := by rw [List.length_take]; omega
  have cv20 : Tr.cverify 3 r3 7 r7 (ps.take 3) = 20 := by
    unfold Tr.cverify
    rw [if_neg (by omega), if_neg (by rw [lp3, lng_37]; omega)]
  have hver := fun (m n : Nat) (o r : List UInt8) (qs : List (List UInt8)) (A : Option Addr) (c : Nat) V (hk : Keeps (fun _ => False) W8 V) (ho : o.length = 32) (hr : r.length = 32) (hP : PathAt V A qs) (hc : qs.length ≤ c) (hmax : c ≤ 9223372036854775807) (hm : m ≤ 18446744073709551615) (hn : n ≤ 18446744073709551615) => cverify_any m n o r A qs c V (hT8.keeps hk id id) ho hr hP hc hmax hm hn
  have hb3 := build_key 3 r3 hR3
  have hb7 := build_key 7 r7 hR7
  have l33 := keyCells_length 3 r3 hR3
  have l37 := keyCells_length 7 r7 hR7
  have o33 := keyCells_one 3 r3
  have o37 := keyCells_one 7 r7
  obtain ⟨ZK, hzk, hzks⟩ := zero_key
  obtain ⟨Z, hZ, hz, hzs⟩ := zero_hash
  obtain ⟨F3, hF3⟩ : ∃ R, (bvs r3).toArray = R := ⟨_, rfl⟩
  obtain ⟨F7, hF7⟩ : ∃ R, (bvs r7).toArray = R := ⟨_, rfl⟩
  obtain ⟨KA, hKA⟩ : ∃ R, keyCells 3 r3 = R := ⟨_, rfl⟩
  obtain ⟨KB, hKB⟩ : ∃ R, keyCells 7 r7 = R := ⟨_, rfl⟩
  rw [hF3] at hroot3 hb3
  rw [hF7] at hroot7 hb7
  rw [hKA] at hb3 l33 o33
  rw [hKB] at hb7 l37 o37
  have ska : (Tryd.prog.info? 72).map (·.size) = some KA.length := by rw [l33]; exact size_key
  have skb : (Tryd.prog.info? 72).map (·.size) = some KB.length := by rw [l37]; exact size_key
  have SKA := Lib.hid ska
  have SKB := Lib.hid skb
  have ZKA := Lib.hid (show ZK.size = KA.toArray.size by rw [hzks, List.size_toArray, l33])
  have ZKB := Lib.hid (show ZK.size = KB.toArray.size by rw [hzks, List.size_toArray, l37])
  have OKA := Lib.hid o33
  have OKB := Lib.hid o37
  have SA2 := Lib.hid (show (Tryd.prog.info? 72).map (·.size) = some KA.toArray.size by rw [List.size_toArray]; exact ska)
  have SB2 := Lib.hid (show (Tryd.prog.info? 72).map (·.size) = some KB.toArray.size by rw [List.size_toArray]; exact skb)
  have HB3 := Lib.hid hb3
  have HB7 := Lib.hid hb7
  have HPROOF := Lib.hid hproof
  have R7 := Lib.hid hroot7
  have R3 := Lib.hid hroot3
  have HVER := Lib.hid hver
  have CV0 := Lib.hid cv0
  have CV15 := Lib.hid cv15
  have CV20 := Lib.hid cv20
  have HPL := Lib.hid hpl
  have HLP3 := Lib.hid lp3
  have HALL := Lib.hid hpall
  have HR3 := Lib.hid hR3
  have HR7 := Lib.hid hR7
  have HKA := Lib.hid hKA
  have HKB := Lib.hid hKB
  have KK := Lib.hid kk
  have L37 : Hid (∀ V, Calls Tryd.prog 27 #[.int .u64 3, .int .u64 7] V fun e w' => e = .returned (.int .i64 4) ∧ Keeps (fun _ => False) V w') := fun V => (long_any 3 7 V (by omega) (by omega)).mono fun e w' ⟨h1, h2⟩ => ⟨by rw [h1, clong_37]; rfl, by rw [h2]; exact Keeps.refl _ _⟩
  have L47 : Hid (∀ V, Calls Tryd.prog 27 #[.int .u64 4, .int .u64 7] V fun e w' => e = .returned (.int .i64 1) ∧ Keeps (fun _ => False) V w') := fun V => (long_any 4 7 V (by omega) (by omega)).mono fun e w' ⟨h1, h2⟩ => ⟨by rw [h1, clong_47]; rfl, by rw [h2]; exact Keeps.refl _ _⟩
  have L77 : Hid (∀ V, Calls Tryd.prog 27 #[.int .u64 7, .int .u64 7] V fun e w' => e = .returned (.int .i64 0) ∧ Keeps (fun _ => False) V w') := fun V => (long_any 7 7 V (by omega) (by omega)).mono fun e w' ⟨h1, h2⟩ => ⟨by rw [h1, clong_77]; rfl, by rw [h2]; exact Keeps.refl _ _⟩
  obtain ⟨gl, hgl⟩ : ∃ g, W7.heap.size = g := ⟨_, rfl⟩
  rw [hgl] at HPROOF R3 R7
  clear ska skb hb3 hb7 l33 l37 o33 o37 hproof hroot7 hroot3 hver cv0 cv15 cv20 hpl lp3 hpall hR3 hR7 hKA hKB kk hpm hps hr7 hr3 hF3 hF7 e3 l3 hrows hT8 hT hlen7 hshort hrs r8 k1 k2 k3 k4 k5 k6 k7 k8 s1 s2 s3 s4 s5 s6 s7 t1 t2 t3 t4 t5 t6 t7 hZ
  have kc := fun (w : World) (C : Array Value) (n c : Nat) => Lib.run_convert_bytes_const (P := Tryd.prog) w 55 5 C n c Tryd.underlying55 Tryd.underlying5
  go_enter Tryd.func21, Tryd.ntmps21
  go_wp2_with fail
  refine HPROOF.out.mono ?_
  rintro e5 w5 ⟨v, rfl, ho5, k5⟩
  obtain ⟨gp, cp, rfl, hcp⟩ : ∃ gp cp, v = .slice (some ⟨gp, 0, none⟩) 4 cp ∧ 4 ≤ cp ∧ cp ≤ 9223372036854775807 := by
    rcases ho5.2 with ⟨_, h⟩ | ⟨g, cap, cur, rfl, _, _, h1, h2, _⟩
    · cases h
    · exact ⟨g, cap, rfl, h1, h2⟩
  have P5 := Lib.hid (show PathAt w5 (some ⟨gp, 0, none⟩) ps from PathAt.of_own ho5 HALL.out)
  have K5 := Lib.hid k5
  have HCP := Lib.hid hcp
  clear HPROOF ho5 k5 hcp
  go_wp2_with fail
  refine (R3.out w5 K5.out).mono ?_
  rintro e6 w6 ⟨rfl, k6⟩
  obtain ⟨V6, hV6⟩ : ∃ V, w6.alloc (.cells ZK 72) = V := ⟨_, rfl⟩
  have kv6 : Keeps (fun _ => False) w6 V6 := by rw [← hV6]; exact (Keeps.refl _ _).alloc _
  have h4 : V6.heap[w6.heap.size]? = some (.cells ZK 72 (0, 0)) := by rw [← hV6]; exact heap_alloc_new w6 _
  obtain ⟨g4, hg4⟩ : ∃ g, w6.heap.size = g := ⟨_, rfl⟩
  have hk6 : Keeps (fun _ => False) w6 (V6.setRow g4 KA.toArray) := kv6.trans' (Keeps.setRow g4 KA.toArray) (fun i hi h => by omega)
  rw [hg4] at h4
  have r4 : (V6.setRow g4 KA.toArray).heap[g4]? = some (.cells KA.toArray 72 (0, 0)) := setRow_heap _ _ _ _ _ _ h4
  have K6 := Lib.hid (K5.out.trans (k6.trans hk6))
  have K56 := Lib.hid (k6.trans hk6)
  have H4 := Lib.hid h4
  have R4 := Lib.hid r4
  clear k6 kv6 hk6 h4 r4 R3
  go_wp2_with (first
    | (refine wpList_build_runs (by rfl) 72 _ (by rfl) [(0, .int .u64 3), (1, .agg F3)] (by rfl) (.agg KA.toArray) (HB3.out _) ?_)
    | (refine wpList_store_row rfl 72 _ _ rfl g4 KA.toArray rfl rfl 72 ZK H4.out SA2.out ZKA.out OKA.out ?_))
  refine (R7.out _ K6.out).mono ?_
  rintro e7 w7 ⟨rfl, k7⟩
  obtain ⟨V8, hV8⟩ : ∃ V, w7.alloc (.cells ZK 72) = V := ⟨_, rfl⟩
  have kv8 : Keeps (fun _ => False) w7 V8 := (by rw [← hV8]; exact (Keeps.refl _ _).alloc _)
  have h5 : V8.heap[w7.heap.size]? = some (.cells ZK 72 (0, 0)) := (by rw [← hV8]; exact heap_alloc_new w7 _)
  obtain ⟨g5, hg5⟩ : ∃ g, w7.heap.size = g := ⟨_, rfl⟩
  have hk8 : Keeps (fun _ => False) w7 (V8.setRow g5 KB.toArray) := kv8.trans' (Keeps.setRow g5 KB.toArray) (fun i hi h => by omega)
  rw [hg5] at h5
  have r5 : (V8.setRow g5 KB.toArray).heap[g5]? = some (.cells KB.toArray 72 (0, 0)) := setRow_heap _ _ _ _ _ _ h5
  have K7 := Lib.hid (k7.trans hk8)
  have H5 := Lib.hid h5
  have R5 := Lib.hid r5
  clear k7 kv8 hk8 h5 r5 R7
  go_wp2_with (first
    | (refine wpList_build_runs (by rfl) 72 _ (by rfl) [(0, .int .u64 7), (1, .agg F7)] (by rfl) (.agg KB.toArray) (HB7.out _) ?_)
    | (refine wpList_store_row rfl 72 _ _ rfl g5 KB.toArray rfl rfl 72 ZK H5.out SB2.out ZKB.out OKB.out ?_))
  obtain ⟨w9, hw9⟩ : ∃ V, V8.setRow g5 KB.toArray = V := ⟨_, rfl⟩
  rw [hw9] at K7 R5 ⊢
  have kw9 : ∀ V, Later w9 V → Keeps (fun _ => False) W8 V := fun V hV => (K6.out.trans K7.out).trans hV.out
  have k59 : ∀ V, Later w9 V → Keeps (fun _ => False) w5 V := fun V hV => (K56.out.trans K7.out).trans hV.out
  have r49 := (K7.out.block _ (Array.getElem?_eq_some_iff.1 R4.out).1 id).trans R4.out
  have G4 : Hid (∀ V, Later w9 V → V.rangeAt g4 0 KA) := fun V hV j v hv => by
    have h : Row V g4 72 KA := (hV.out.block _ (Array.getElem?_eq_some_iff.1 r49).1 id).trans r49
    rw [Nat.zero_add, h.cell]; exact hv
  have G5 : Hid (∀ V, Later w9 V → V.rangeAt g5 0 KB) := fun V hV j v hv => by
    have h : Row V g5 72 KB := (hV.out.block _ (Array.getElem?_eq_some_iff.1 R5.out).1 id).trans R5.out
    rw [Nat.zero_add, h.cell]; exact hv
  have pv : ∀ V, Later w9 V → PathAt V (some ⟨gp, 0, none⟩) ps := fun V hV => P5.out.keeps (k59 V hV) (fun _ _ => id)
  have V0 : Hid (∀ V, Later w9 V → Calls Tryd.prog 51 #[.agg KA.toArray, .agg KB.toArray, .slice (some ⟨gp, 0, none⟩) 4 cp] V fun e w' => e = .returned (.int .i64 0) ∧ Keeps (fun _ => False) V w') := fun V hV => by
    have h := HVER.out 3 7 r3 r7 ps (some ⟨gp, 0, none⟩) cp V (kw9 V hV) HR3.out HR7.out (pv V hV) (by rw [HPL.out]; exact HCP.out.1) HCP.out.2 (by omega) (by omega)
    rw [CV0.out, HPL.out, HKA.out, HKB.out] at h
    exact h
  have V15 : Hid (∀ V, Later w9 V → Calls Tryd.prog 51 #[.agg KB.toArray, .agg KA.toArray, .slice (some ⟨gp, 0, none⟩) 4 cp] V fun e w' => e = .returned (.int .i64 15) ∧ Keeps (fun _ => False) V w') := fun V hV => by
    have h := HVER.out 7 3 r7 r3 ps (some ⟨gp, 0, none⟩) cp V (kw9 V hV) HR7.out HR3.out (pv V hV) (by rw [HPL.out]; exact HCP.out.1) HCP.out.2 (by omega) (by omega)
    rw [CV15.out, HPL.out, HKA.out, HKB.out] at h
    exact h
  have V20 : Hid (∀ V, Later w9 V → Calls Tryd.prog 51 #[.agg KA.toArray, .agg KB.toArray, .slice (some ⟨gp, 0, none⟩) 3 cp] V fun e w' => e = .returned (.int .i64 20) ∧ Keeps (fun _ => False) V w') := fun V hV => by
    have h := HVER.out 3 7 r3 r7 (ps.take 3) (some ⟨gp, 0, none⟩) cp V (kw9 V hV) HR3.out HR7.out ((pv V hV).take 3) (by rw [HLP3.out]; have := HCP.out.1; omega) HCP.out.2 (by omega) (by omega)
    rw [CV20.out, HLP3.out, HKA.out, HKB.out] at h
    exact h
  have FIN : Hid (∀ V, Later w9 V → Keeps (fun _ => False) w V) := fun V hV => KK.out.trans (kw9 V hV)
  have hcp3 : (3 : Int) ≤ cp := by have := HCP.out.1; omega
  clear hw9 kw9 k59 r49 pv HVER
  refine wp_region_loose [] [0, 1, 2, 3, 4, 5, 6, 7, 8, 9, 10, 11, 12, 13, 14, 15, 16, 17, 18, 19, 20, 21, 22, 23, 24, 25, 26, 27, 28, 29, 30, 31, 32, 33, 34, 35, 36, 37, 38, 39, 40, 41] (by kernel_rfl) (by kernel_rfl) ?_
  refine R_call (get_op rfl) (by rfl) (by rfl) _ _ (.int .i64 4) (fun _ => by go_simp) (fun V hV => L37.out V) ?_
  simp only [Act.put, List.setIfInBounds_toArray, List.set_cons_zero, List.set_cons_succ]
  refine R_value (get_op rfl) (by rfl) (by rfl) (.bool true) (fun _ _ => by go_simp) ?_
  simp only [Act.put, List.setIfInBounds_toArray, List.set_cons_zero, List.set_cons_succ]
  refine R_value (get_op rfl) (by rfl) (by rfl) (.bool true) (fun _ _ => by go_simp) ?_
  simp only [Act.put, List.setIfInBounds_toArray, List.set_cons_zero, List.set_cons_succ]
  refine R_call (get_op rfl) (by rfl) (by rfl) _ _ (.int .i64 1) (fun _ => by go_simp) (fun V hV => L47.out V) ?_
  simp only [Act.put, List.setIfInBounds_toArray, List.set_cons_zero, List.set_cons_succ]
  refine R_value (get_op rfl) (by rfl) (by rfl) (.bool true) (fun _ _ => by go_simp) ?_
  simp only [Act.put, List.setIfInBounds_toArray, List.set_cons_zero, List.set_cons_succ]
  refine R_value (get_op rfl) (by rfl) (by rfl) (.bool true) (fun _ _ => by go_simp) ?_
  simp only [Act.put, List.setIfInBounds_toArray, List.set_cons_zero, List.set_cons_succ]
  refine R_value (get_op rfl) (by rfl) (by rfl) (.bool true) (fun _ _ => by go_simp) ?_
  simp only [Act.put, List.setIfInBounds_toArray, List.set_cons_zero, List.set_cons_succ]
  refine R_call (get_op rfl) (by rfl) (by rfl) _ _ (.int .i64 0) (fun _ => by go_simp) (fun V hV => L77.out V) ?_
  simp only [Act.put, List.setIfInBounds_toArray, List.set_cons_zero, List.set_cons_succ]
  refine R_value (get_op rfl) (by rfl) (by rfl) (.bool true) (fun _ _ => by go_simp) ?_
  simp only [Act.put, List.setIfInBounds_toArray, List.set_cons_zero, List.set_cons_succ]
  refine R_value (get_op rfl) (by rfl) (by rfl) (.bool true) (fun _ _ => by go_simp) ?_
  simp only [Act.put, List.setIfInBounds_toArray, List.set_cons_zero, List.set_cons_succ]
  refine R_value (get_op rfl) (by rfl) (by rfl) (.bool true) (fun _ _ => by go_simp) ?_
  simp only [Act.put, List.setIfInBounds_toArray, List.set_cons_zero, List.set_cons_succ]
  refine R_value (get_op rfl) (by rfl) (by rfl) (.int .i64 0) (fun _ _ => by go_simp) ?_
  simp only [Act.put, List.setIfInBounds_toArray, List.set_cons_zero, List.set_cons_succ]
  refine R_value (get_op rfl) (by rfl) (by rfl) (.bool true) (fun _ _ => by go_simp) ?_
  simp only [Act.put, List.setIfInBounds_toArray, List.set_cons_zero, List.set_cons_succ]
  refine R_value (get_op rfl) (by rfl) (by rfl) (.bool true) (fun _ _ => by go_simp) ?_
  simp only [Act.put, List.setIfInBounds_toArray, List.set_cons_zero, List.set_cons_succ]
  refine R_value (get_op rfl) (by rfl) (by rfl) (.bool true) (fun _ _ => by go_simp) ?_
  simp only [Act.put, List.setIfInBounds_toArray, List.set_cons_zero, List.set_cons_succ]
  refine R_value (get_op rfl) (by rfl) (by rfl) (.slice (some ⟨gp, 0, none⟩) 4 cp) (fun _ _ => by go_simp) ?_
  simp only [Act.put, List.setIfInBounds_toArray, List.set_cons_zero, List.set_cons_succ]
  refine R_value (get_op rfl) (by rfl) (by rfl) (.int .i64 4) (fun _ _ => by go_simp) ?_
  simp only [Act.put, List.setIfInBounds_toArray, List.set_cons_zero, List.set_cons_succ]
  refine R_value (get_op rfl) (by rfl) (by rfl) (.bool true) (fun _ _ => by go_simp) ?_
  simp only [Act.put, List.setIfInBounds_toArray, List.set_cons_zero, List.set_cons_succ]
  refine R_value (get_op rfl) (by rfl) (by rfl) (.bool true) (fun _ _ => by go_simp) ?_
  simp only [Act.put, List.setIfInBounds_toArray, List.set_cons_zero, List.set_cons_succ]
  refine R_value (get_op rfl) (by rfl) (by rfl) (.bool true) (fun _ _ => by go_simp) ?_
  simp only [Act.put, List.setIfInBounds_toArray, List.set_cons_zero, List.set_cons_succ]
  refine R_load (get_op rfl) (by rfl) (by rfl) 72 (.tmp 4) (by rfl) g4 0 (by rfl) KA _ (fun V hV => G4.out V hV) Tryd.underlying72 rfl SKA.out ?_
  simp only [Act.put, List.setIfInBounds_toArray, List.set_cons_zero, List.set_cons_succ]
  refine R_load (get_op rfl) (by rfl) (by rfl) 72 (.tmp 5) (by rfl) g5 0 (by rfl) KB _ (fun V hV => G5.out V hV) Tryd.underlying72 rfl SKB.out ?_
  simp only [Act.put, List.setIfInBounds_toArray, List.set_cons_zero, List.set_cons_succ]
  refine R_value (get_op rfl) (by rfl) (by rfl) (.slice (some ⟨gp, 0, none⟩) 4 cp) (fun _ _ => by go_simp) ?_
  simp only [Act.put, List.setIfInBounds_toArray, List.set_cons_zero, List.set_cons_succ]
  refine R_call (get_op rfl) (by rfl) (by rfl) _ _ (.int .i64 0) (fun _ => by go_simp) (fun V hV => V0.out V hV) ?_
  simp only [Act.put, List.setIfInBounds_toArray, List.set_cons_zero, List.set_cons_succ]
  refine R_value (get_op rfl) (by rfl) (by rfl) (.bool true) (fun _ _ => by go_simp) ?_
  simp only [Act.put, List.setIfInBounds_toArray, List.set_cons_zero, List.set_cons_succ]
  refine R_value (get_op rfl) (by rfl) (by rfl) (.bool true) (fun _ _ => by go_simp) ?_
  simp only [Act.put, List.setIfInBounds_toArray, List.set_cons_zero, List.set_cons_succ]
  refine R_value (get_op rfl) (by rfl) (by rfl) (.bool true) (fun _ _ => by go_simp) ?_
  simp only [Act.put, List.setIfInBounds_toArray, List.set_cons_zero, List.set_cons_succ]
  refine R_load (get_op rfl) (by rfl) (by rfl) 72 (.tmp 5) (by rfl) g5 0 (by rfl) KB _ (fun V hV => G5.out V hV) Tryd.underlying72 rfl SKB.out ?_
  simp only [Act.put, List.setIfInBounds_toArray, List.set_cons_zero, List.set_cons_succ]
  refine R_load (get_op rfl) (by rfl) (by rfl) 72 (.tmp 4) (by rfl) g4 0 (by rfl) KA _ (fun V hV => G4.out V hV) Tryd.underlying72 rfl SKA.out ?_
  simp only [Act.put, List.setIfInBounds_toArray, List.set_cons_zero, List.set_cons_succ]
  refine R_value (get_op rfl) (by rfl) (by rfl) (.slice (some ⟨gp, 0, none⟩) 4 cp) (fun _ _ => by go_simp) ?_
  simp only [Act.put, List.setIfInBounds_toArray, List.set_cons_zero, List.set_cons_succ]
  refine R_call (get_op rfl) (by rfl) (by rfl) _ _ (.int .i64 15) (fun _ => by go_simp) (fun V hV => V15.out V hV) ?_
  simp only [Act.put, List.setIfInBounds_toArray, List.set_cons_zero, List.set_cons_succ]
  refine R_value (get_op rfl) (by rfl) (by rfl) (.bool true) (fun _ _ => by go_simp) ?_
  simp only [Act.put, List.setIfInBounds_toArray, List.set_cons_zero, List.set_cons_succ]
  refine R_value (get_op rfl) (by rfl) (by rfl) (.bool true) (fun _ _ => by go_simp) ?_
  simp only [Act.put, List.setIfInBounds_toArray, List.set_cons_zero, List.set_cons_succ]
  refine R_value (get_op rfl) (by rfl) (by rfl) (.bool true) (fun _ _ => by go_simp) ?_
  simp only [Act.put, List.setIfInBounds_toArray, List.set_cons_zero, List.set_cons_succ]
  refine R_load (get_op rfl) (by rfl) (by rfl) 72 (.tmp 4) (by rfl) g4 0 (by rfl) KA _ (fun V hV => G4.out V hV) Tryd.underlying72 rfl SKA.out ?_
  simp only [Act.put, List.setIfInBounds_toArray, List.set_cons_zero, List.set_cons_succ]
  refine R_load (get_op rfl) (by rfl) (by rfl) 72 (.tmp 5) (by rfl) g5 0 (by rfl) KB _ (fun V hV => G5.out V hV) Tryd.underlying72 rfl SKB.out ?_
  simp only [Act.put, List.setIfInBounds_toArray, List.set_cons_zero, List.set_cons_succ]
  refine R_value (get_op rfl) (by rfl) (by rfl) (.slice (some ⟨gp, 0, none⟩) 4 cp) (fun _ _ => by go_simp) ?_
  simp only [Act.put, List.setIfInBounds_toArray, List.set_cons_zero, List.set_cons_succ]
  refine R_value (get_op rfl) (by rfl) (by rfl) (.slice (some ⟨gp, 0, none⟩) 3 cp) (fun _ _ => by go_simp) ?_
  simp only [Act.put, List.setIfInBounds_toArray, List.set_cons_zero, List.set_cons_succ]
  refine R_call (get_op rfl) (by rfl) (by rfl) _ _ (.int .i64 20) (fun _ => by go_simp) (fun V hV => V20.out V hV) ?_
  simp only [Act.put, List.setIfInBounds_toArray, List.set_cons_zero, List.set_cons_succ]
  refine R_value (get_op rfl) (by rfl) (by rfl) (.bool true) (fun _ _ => by go_simp) ?_
  simp only [Act.put, List.setIfInBounds_toArray, List.set_cons_zero, List.set_cons_succ]
  refine R_value (get_op rfl) (by rfl) (by rfl) (.bool true) (fun _ _ => by go_simp) ?_
  simp only [Act.put, List.setIfInBounds_toArray, List.set_cons_zero, List.set_cons_succ]
  refine R_value (get_op rfl) (by rfl) (by rfl) (.bool true) (fun _ _ => by go_simp) ?_
  simp only [Act.put, List.setIfInBounds_toArray, List.set_cons_zero]
  refine R_nil ?_
  intro w10 hw10
  have hfin := FIN.out w10 hw10
  go_wp2
  go_ret
  exact ⟨rfl, hfin⟩
end Go.Proofs.YtnnhbgaeohdojaaDoor
