/-
  ScorePlays' walk: not in the ranges.
-/
import Derived.Test.YtdihkbkcefjeoaaSpA
import Derived.Test.YtdihkbkcefjeoaaWalkE
namespace Go.Proofs.Ytdihkbkcefjeoaa
open Go.RowKit Go.BigFrame
set_option linter.unusedVariables false
set_option linter.unusedSimpArgs false
theorem wpList_made_o13 {P : Program} {w : World} {ops : Array Oper} {rest : List Oper} {o : Oper} {a : Act} {Q : Exit → Act → World → Prop} (hw : Region.wanted o (yielded ops a.tmps) = true) (t : TypeId) (parts : List (Nat × Operand)) (ho : o.op = .build t parts.toArray) (vs : List (Nat × Value)) (hx : parts.map (fun (i, x) => (i, a.eval x)) = vs)
    (v : Value) (hrun : ∀ w, (Instr.build t vs.toArray).run P w = .ok v w) (h : wpList P ops Q rest (a.put o.dst v) w) : wpList P ops Q (o :: rest) a w := by
  refine wpList_wanted hw fun _ hK => ?_
  unfold Oper.wp execOp
  simp only [ho, List.map_toArray, hx, Sem.run_bind, Sem.run_pure, Result.andThen_ok, hrun]
  exact hK _ _ h
set_option maxRecDepth 100000 in
set_option maxHeartbeats 16000000 in
theorem splays_out (many : Int) (L H : Int) (A : Option Addr) (len c : Nat) (W : World) (hno : ¬ ((1 ≤ many ∧ many ≤ 64) ∧ (1 ≤ L ∧ L ≤ 1000) ∧ (1 ≤ H ∧ H ≤ 1000))) :
    Calls Try.prog 3 #[.int .i64 many, .int .i64 L, .int .i64 H, .slice A len c] W fun e W' => e = .returned (.bool true) ∧ Keeps (fun _ => False) W W' := by
  obtain ⟨ZP, hZP⟩ : ∃ Z, pc (0, 0) = Z := ⟨_, rfl⟩
  have hzp : ∀ V : World, (zeroValue 40).run Try.prog V = .ok (.agg ZP) V := fun V => by rw [← hZP]; exact zero_peer V
  have SZP : Hid ((Try.prog.info? 40).map (·.size) = some ZP.size) := Lib.hid (by rw [← hZP]; exact size_Peer)
  have OZP : Hid (ZP.all (·.oneCell') = true) := Lib.hid (by rw [← hZP]; exact pc_one _)
  have HBZ : Hid (∀ V : World, (Instr.build 40 #[]).run Try.prog V = .ok (.agg ZP) V) := Lib.hid (fun V => by rw [← hZP]; exact build_peer_none V)
  have HZP := Lib.hid hZP
  obtain ⟨ZT, hZT⟩ : ∃ Z, tcs 0 0 none 0 0 = Z := ⟨_, rfl⟩
  have hzt : ∀ V : World, (zeroValue 30).run Try.prog V = .ok (.agg ZT) V := fun V => by rw [← hZT]; exact zero_T V
  have STC : Hid ((Try.prog.info? 30).map (·.size) = some ZT.size) := Lib.hid (by rw [← hZT]; exact size_T)
  have OTC : Hid (ZT.all (·.oneCell') = true) := Lib.hid (by rw [← hZT]; exact tcs_one _ _ _ _ _)
  have HAW := Lib.hid (awake13_any W)
  have HNEW := Lib.hid (fun w => new_not many L H w hno)
  have HREF := Lib.hid (fun w => rnew_off many L H w hno)
  rw [hZT] at HREF
  clear hZP hno
  go_enter Try.func3, Try.ntmps3
  go_wp2_with fail
  refine HAW.out.mono ?_
  rintro e w1 ⟨rfl, k1⟩
  have K1 := Lib.hid k1
  clear k1 HAW
  go_wp2_with fail
  refine (HNEW.out _).mono ?_
  rintro e w2 ⟨rfl, e2⟩
  obtain rfl : w2 = w1 := e2
  clear HNEW
  go_wp2_with fail
  refine (HREF.out _).mono ?_
  rintro e w3 ⟨rfl, k3⟩
  obtain ⟨bw, hbw⟩ : ∃ x, w3.heap.size = x := ⟨_, rfl⟩
  obtain ⟨w4, hw4⟩ : ∃ V, w3.alloc (.cells ZT 30) = V := ⟨_, rfl⟩
  have k4 : Keeps (fun _ => False) w3 w4 := by rw [← hw4]; exact (Keeps.refl _ _).alloc _
  have r4 : w4.heap[bw]? = some (.cells ZT 30 (0, 0)) := by rw [← hw4, ← hbw]; exact heap_alloc_new w3 _
  obtain ⟨w5, hw5⟩ : ∃ V, w4.setRow bw ZT = V := ⟨_, rfl⟩
  have k5 : Keeps (fun _ => False) w3 w5 := k4.trans' (T := fun k => k = bw) (by rw [← hw5]; exact Keeps.setRow _ _) (fun i hi e => by omega)
  have K5 := Lib.hid (K1.out.trans (k3.trans k5))
  have R4 := Lib.hid r4
  clear k3 k4 r4 k5 HREF
  go_wp2_with (first
    | (refine wpList_store_row (by rfl) 30 (.tmp 12) (.tmp 48) (by rfl) bw ZT (by rfl) (by rfl) 30 ZT R4.out STC.out rfl OTC.out ?_; rw [hw5])
    | fail)
  clear R4 STC OTC hw5 hw4
  go_loopw [14] (fun iv wr => iv = .int .i64 0 ∧ Hid (Keeps (fun _ => False) W wr)) (fun iv _ => 0)
  case atStart => exact ⟨rfl, K5⟩
  case round =>
    obtain ⟨rfl, K⟩ := hrel
    clear K5
    by_cases hil : 0 < len
    · have hil2 : (0 : Int) < (len : Int) := by omega
      have KWR := K
      go_wp2_with fail
      refine (peer_none 0 wr).mono ?_
      rintro e v1 ⟨rfl, kv1⟩
      obtain ⟨b31, hb31⟩ : ∃ x, v1.heap.size = x := ⟨_, rfl⟩
      obtain ⟨V2, hV2⟩ : ∃ V, v1.alloc (.cells ZP 40) = V := ⟨_, rfl⟩
      have rv2 : V2.heap[b31]? = some (.cells ZP 40 (0, 0)) := by rw [← hV2, ← hb31]; exact heap_alloc_new v1 _
      have kv2 : Keeps (fun _ => False) v1 V2 := by rw [← hV2]; exact (Keeps.refl _ _).alloc _
      obtain ⟨v3, hV3⟩ : ∃ V, V2.setRow b31 ZP = V := ⟨_, rfl⟩
      have kv3 : Keeps (fun _ => False) v1 v3 := kv2.trans' (T := fun k => k = b31) (by rw [← hV3]; exact Keeps.setRow _ _) (fun i hi e => by omega)
      have KV3 := Lib.hid (KWR.out.trans (kv1.trans kv3))
      have RV2 := Lib.hid rv2
      rw [HZP.out]
      clear kv1 rv2 kv2 kv3
      go_wp2_with (first
        | (refine wpList_store_row (by rfl) 40 (.tmp 31) (.tmp 222) (by rfl) b31 ZP (by rfl) (by rfl) 40 ZP RV2.out SZP.out rfl OZP.out ?_; rw [hV3])
        | fail)
      refine (blame_none v3 0 1).mono ?_
      rintro e v4 ⟨rfl, k4⟩
      go_wp2_with fail
      refine (taway_none v4 0).mono ?_
      rintro e v5 ⟨rfl, k5⟩
      go_wp2_with fail
      refine (tick_none v5).mono ?_
      rintro e v6 ⟨rfl, k6⟩
      go_wp2_with fail
      refine (open_none v6).mono ?_
      rintro e v7 ⟨rfl, k7⟩
      have hsn := set_none v7 0 (0, 0)
      rw [HZP.out] at hsn
      have HSN := Lib.hid hsn
      have KV7 := Lib.hid (KV3.out.trans (k4.trans (k5.trans (k6.trans k7))))
      clear hsn k4 k5 k6 k7
      go_wp2_with (first
        | (refine wpList_made_o13 (by rfl) 40 [] (by rfl) [] (by rfl) (.agg ZP) HBZ.out ?_)
        | fail)
      refine HSN.out.mono ?_
      rintro e v8 ⟨rfl, k8⟩
      have KV8 := Lib.hid (KV7.out.trans k8)
      clear k8
      go_wp2
      go_ret
      exact ⟨rfl, KV8.out⟩
    · obtain rfl : len = 0 := by omega
      have KWR := K
      go_wp2_with fail
      refine (peer_none 0 wr).mono ?_
      rintro e v1 ⟨rfl, kv1⟩
      obtain ⟨b31, hb31⟩ : ∃ x, v1.heap.size = x := ⟨_, rfl⟩
      obtain ⟨V2, hV2⟩ : ∃ V, v1.alloc (.cells ZP 40) = V := ⟨_, rfl⟩
      have rv2 : V2.heap[b31]? = some (.cells ZP 40 (0, 0)) := by rw [← hV2, ← hb31]; exact heap_alloc_new v1 _
      have kv2 : Keeps (fun _ => False) v1 V2 := by rw [← hV2]; exact (Keeps.refl _ _).alloc _
      obtain ⟨v3, hV3⟩ : ∃ V, V2.setRow b31 ZP = V := ⟨_, rfl⟩
      have kv3 : Keeps (fun _ => False) v1 v3 := kv2.trans' (T := fun k => k = b31) (by rw [← hV3]; exact Keeps.setRow _ _) (fun i hi e => by omega)
      have KV3 := Lib.hid (KWR.out.trans (kv1.trans kv3))
      have RV2 := Lib.hid rv2
      rw [HZP.out]
      clear kv1 rv2 kv2 kv3
      go_wp2_with (first
        | (refine wpList_store_row (by rfl) 40 (.tmp 31) (.tmp 222) (by rfl) b31 ZP (by rfl) (by rfl) 40 ZP RV2.out SZP.out rfl OZP.out ?_; rw [hV3])
        | fail)
      refine (blame_none v3 0 1).mono ?_
      rintro e v4 ⟨rfl, k4⟩
      go_wp2_with fail
      refine (taway_none v4 0).mono ?_
      rintro e v5 ⟨rfl, k5⟩
      go_wp2_with fail
      refine (tick_none v5).mono ?_
      rintro e v6 ⟨rfl, k6⟩
      go_wp2_with fail
      refine (open_none v6).mono ?_
      rintro e v7 ⟨rfl, k7⟩
      have hsn := set_none v7 0 (0, 0)
      rw [HZP.out] at hsn
      have HSN := Lib.hid hsn
      have KV7 := Lib.hid (KV3.out.trans (k4.trans (k5.trans (k6.trans k7))))
      clear hsn k4 k5 k6 k7
      go_wp2_with (first
        | (refine wpList_made_o13 (by rfl) 40 [] (by rfl) [] (by rfl) (.agg ZP) HBZ.out ?_)
        | fail)
      refine HSN.out.mono ?_
      rintro e v8 ⟨rfl, k8⟩
      have KV8 := Lib.hid (KV7.out.trans k8)
      clear k8
      go_wp2
      go_ret
      exact ⟨rfl, KV8.out⟩
end Go.Proofs.Ytdihkbkcefjeoaa
