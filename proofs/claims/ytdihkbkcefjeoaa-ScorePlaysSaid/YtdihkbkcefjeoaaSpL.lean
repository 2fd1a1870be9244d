/-
  ScorePlays' walk.
-/
import Derived.Test.YtdihkbkcefjeoaaSpA
import Derived.Test.YtdihkbkcefjeoaaWalkE
namespace Go.Proofs.Ytdihkbkcefjeoaa
open Go.RowKit Go.BigFrame
set_option linter.unusedVariables false
set_option linter.unusedSimpArgs false

namespace Sc
theorem blame_lim (s : Tb) (k n : Int) : (blame s k n).limit = s.limit ∧ (blame s k n).hold = s.hold := by
  unfold blame put
  split
  · split <;> exact ⟨rfl, rfl⟩
  · exact ⟨rfl, rfl⟩
theorem blame_len (s : Tb) (k n : Int) : (blame s k n).ps.length = s.ps.length := by
  unfold blame put
  split
  · split <;> simp
  · rfl
theorem set_lim (s : Tb) (k : Int) (p : Int × Int) : (set s k p).limit = s.limit ∧ (set s k p).hold = s.hold ∧ (set s k p).ps.length = s.ps.length := by
  unfold set put
  split
  · exact ⟨rfl, rfl, by simp⟩
  · exact ⟨rfl, rfl, rfl⟩
end Sc
theorem wpList_made_w13 {P : Program} {w : World} {ops : Array Oper} {rest : List Oper} {o : Oper} {a : Act} {Q : Exit → Act → World → Prop} (hw : Region.wanted o (yielded ops a.tmps) = true) (t : TypeId) (parts : List (Nat × Operand)) (ho : o.op = .build t parts.toArray) (vs : List (Nat × Value)) (hx : parts.map (fun (i, x) => (i, a.eval x)) = vs)
    (v : Value) (hrun : ∀ w, (Instr.build t vs.toArray).run P w = .ok v w) (h : wpList P ops Q rest (a.put o.dst v) w) : wpList P ops Q (o :: rest) a w := by
  refine wpList_wanted hw fun _ hK => ?_
  unfold Oper.wp execOp
  simp only [ho, List.map_toArray, hx, Sem.run_bind, Sem.run_pure, Result.andThen_ok, hrun]
  exact hK _ _ h
set_option maxRecDepth 100000 in
set_option maxHeartbeats 16000000 in
theorem splays_in (many : Nat) (L H : Int) (A : Option Addr) (len c : Nat) (acts : List ActOf) (W : World) (h1 : 1 ≤ many ∧ many ≤ 64) (h2 : 1 ≤ L ∧ L ≤ 1000) (h3 : 1 ≤ H ∧ H ≤ 1000) (ha : IsActs W A len c acts) :
    Calls Try.prog 3 #[.int .i64 (many : Int), .int .i64 L, .int .i64 H, .slice A len c] W fun e W' => e = .returned (.bool true) ∧ Keeps (fun _ => False) W W' := by
  obtain ⟨ZP, hZP⟩ : ∃ Z, pc (0, 0) = Z := ⟨_, rfl⟩
  have hzp : ∀ V : World, (zeroValue 40).run Try.prog V = .ok (.agg ZP) V := fun V => by rw [← hZP]; exact zero_peer V
  have SZP : Hid ((Try.prog.info? 40).map (·.size) = some ZP.size) := Lib.hid (by rw [← hZP]; exact size_Peer)
  have OZP : Hid (ZP.all (·.oneCell') = true) := Lib.hid (by rw [← hZP]; exact pc_one _)
  have HBZ : Hid (∀ V : World, (Instr.build 40 #[]).run Try.prog V = .ok (.agg ZP) V) := Lib.hid (fun V => by rw [← hZP]; exact build_peer_none V)
  have HZP := Lib.hid hZP
  obtain ⟨ZT, hZT⟩ : ∃ Z, tcs 0 0 none 0 0 = Z := ⟨_, rfl⟩
  have hzt : ∀ V : World, (zeroValue 30).run Try.prog V = .ok (.agg ZT) V := fun V => by rw [← hZT]; exact zero_T V
  have NZT : Hid (ZT.size = 3) := Lib.hid (by rw [← hZT]; rfl)
  obtain ⟨ZA, hZA⟩ : ∃ Z : Array Value, (#[.int .i64 0, .int .i64 0, .int .i64 0, .int .i64 0] : Array Value) = Z := ⟨_, rfl⟩
  have hza : ∀ V : World, (zeroValue 34).run Try.prog V = .ok (.agg ZA) V := fun V => by rw [← hZA]; exact zero_act V
  have NZA : Hid (ZA.size = 4) := Lib.hid (by rw [← hZA]; rfl)
  have HAW := Lib.hid (awake13_any W)
  have HNEW := Lib.hid (fun w => new_any many L H w h1 h2 h3)
  have HREF := Lib.hid (fun w => rnew_on many L H w h1 h2 h3)
  have HA := Lib.hid ha
  clear hZP hZT hZA ha h1 h2 h3
  go_enter Try.func3, Try.ntmps3
  go_wp2_with fail
  refine HAW.out.mono ?_
  rintro e w1 ⟨rfl, k1⟩
  have K1 := Lib.hid k1
  clear k1 HAW
  go_wp2_with fail
  refine (HNEW.out _).mono ?_
  rintro e w2 ⟨g, b, rfl, hg, hb, t2, k2⟩
  have T2 := Lib.hid t2
  have K2 := Lib.hid (K1.out.trans k2)
  have HGB : Hid (W.heap.size ≤ g ∧ W.heap.size ≤ b) := Lib.hid (by have := K1.out.size; omega)
  clear t2 k2 hg hb HNEW
  go_wp2_with fail
  refine (HREF.out _).mono ?_
  rintro e w3 ⟨A3, c3, rfl, o3, k3⟩
  obtain ⟨TC, hTC⟩ : ∃ C, tcs L H A3 many c3 = C := ⟨_, rfl⟩
  have STC : Hid ((Try.prog.info? 30).map (·.size) = some TC.size) := Lib.hid (by rw [← hTC]; exact size_T)
  have NTC : Hid (ZT.size = TC.size) := Lib.hid (by rw [NZT.out, ← hTC]; rfl)
  have OTC : Hid (TC.all (·.oneCell') = true) := Lib.hid (by rw [← hTC]; exact tcs_one _ _ _ _ _)
  obtain ⟨bw, hbw⟩ : ∃ x, w3.heap.size = x := ⟨_, rfl⟩
  obtain ⟨w4, hw4⟩ : ∃ V, w3.alloc (.cells ZT 30) = V := ⟨_, rfl⟩
  have k4 : Keeps (fun _ => False) w3 w4 := by rw [← hw4]; exact (Keeps.refl _ _).alloc _
  have r4 : w4.heap[bw]? = some (.cells ZT 30 (0, 0)) := by rw [← hw4, ← hbw]; exact heap_alloc_new w3 _
  obtain ⟨w5, hw5⟩ : ∃ V, w4.setRow bw TC = V := ⟨_, rfl⟩
  have k5 : Keeps (fun _ => False) w3 w5 := k4.trans' (T := fun k => k = bw) (by rw [← hw5]; exact Keeps.setRow _ _) (fun i hi e => by omega)
  have r5 : Row w5 bw 30 [.int .i64 L, .int .i64 H, .slice A3 many c3] := by
    have h : w5.heap[bw]? = some (.cells TC 30 (0, 0)) := by rw [← hw5]; exact setRow_heap _ _ _ _ _ _ r4
    rw [← hTC] at h
    exact h
  have T5 : Hid (TabAt w5 g b (Sc.new many L H)) := Lib.hid (T2.out.later (k3.trans k5))
  have F5 : Hid (RfAt w5 bw (Sc.new many L H) A3 c3) := Lib.hid (by
    have hl : (Sc.new many L H).ps.length = many := List.length_replicate
    exact ⟨by rw [hl]; exact r5, by rw [hl]; exact own_base (k5.owns o3 (fun _ _ => id)) (Nat.zero_le _)⟩)
  have K5 := Lib.hid (K2.out.trans (k3.trans k5))
  have HBW : Hid (W.heap.size ≤ bw) := Lib.hid (by have := K2.out.size; have := k3.size; omega)
  have R4 := Lib.hid r4
  rw [hTC]
  clear k3 k4 r4 k5 r5 o3 hTC T2 HREF
  go_wp2_with (first
    | (refine wpList_store_row (by rfl) 30 (.tmp 12) (.tmp 48) (by rfl) bw TC (by rfl) (by rfl) 30 ZT R4.out STC.out NTC.out OTC.out ?_; rw [hw5])
    | fail)
  clear R4 STC NTC OTC hw5 hw4
  go_loopw [14] (fun iv wr => ∃ (i : Nat) (s : Sc.Tb) (A1 : Option Addr) (c1 : Nat), i ≤ len ∧ i ≤ 60 ∧ iv = .int .i64 (i : Int) ∧ Hid (TabAt wr g b s) ∧ Hid (RfAt wr bw s A1 c1) ∧ Hid (Keeps (fun _ => False) W wr)) (fun iv _ => 60 - (intOf iv).toNat)
  case atStart => exact ⟨0, _, A3, c3, by omega, by omega, rfl, T5, F5, K5⟩
  case round =>
    obtain ⟨i, s, A1, c1, hi, hi60, rfl, T, F, K⟩ := hrel
    clear T5 F5 K5
    by_cases hil : i < len
    · have hil2 : (i : Int) < (len : Int) := by omega
      by_cases hi6 : i < 60
      · have hi62 : (i : Int) < 60 := by omega
        obtain ⟨x, hx⟩ : ∃ x, acts[i]? = some x := ⟨_, List.getElem?_eq_getElem (by rw [HA.out.many]; omega)⟩
        obtain ⟨ad, rfl, hxc, wk, wi, wn, wl⟩ := HA.out.at_ i x hx
        obtain ⟨kd, qi, qn, ql⟩ := x
        simp only at wk wi wn wl
        have HQN := Lib.hid (bounds_i64 wn)
        obtain ⟨RX, hRX⟩ : ∃ R : Array Value, ([.int .i64 kd, .int .i64 qi, .int .i64 qn, .int .i64 ql] : List Value).toArray = R := ⟨_, rfl⟩
        have RXN : Hid (RX.size = 4) := Lib.hid (by rw [← hRX]; rfl)
        have RXS : Hid ((Try.prog.info? 34).map (·.size) = some RX.size) := Lib.hid (by rw [RXN.out]; exact size_act)
        have RXO : Hid (RX.all (·.oneCell') = true) := Lib.hid (by rw [← hRX]; simp [Value.oneCell'])
        have HXC : Hid (∀ q u, ([.int .i64 kd, .int .i64 qi, .int .i64 qn, .int .i64 ql] : List Value)[q]? = some u → wr.cell? ((ad.add (i * 4)).add q) = some u) := Lib.hid (fun q u hq => by
          have h := hxc q u hq
          rw [Go.Deep.add_add]
          rw [K.out.cell (World.block_lt_of_cell? W _ h) id]
          exact h)
        obtain ⟨PC, hPC⟩ : ∃ C, pc (qn, ql) = C := ⟨_, rfl⟩
        have HPC := Lib.hid hPC
        have HBP : Hid (∀ V : World, (Instr.build 40 #[(0, .int .i64 qn), (1, .int .i64 ql)]).run Try.prog V = .ok (.agg PC) V) := Lib.hid (fun V => by rw [← hPC]; exact build_peer qn ql V)
        have HBQ : Hid (∀ V : World, (Instr.build 42 #[(0, .int .i64 qn), (1, .int .i64 ql)]).run Try.prog V = .ok (.agg PC) V) := Lib.hid (fun V => by rw [← hPC]; exact build_P qn ql V)
        obtain ⟨b15, hb15⟩ : ∃ x, wr.heap.size = x := ⟨_, rfl⟩
        obtain ⟨W5, hW5⟩ : ∃ V, wr.alloc (.cells ZA 34) = V := ⟨_, rfl⟩
        have k5 : Keeps (fun _ => False) wr W5 := by rw [← hW5]; exact (Keeps.refl _ _).alloc _
        have r5 : W5.heap[b15]? = some (.cells ZA 34 (0, 0)) := by rw [← hW5, ← hb15]; exact heap_alloc_new wr _
        obtain ⟨W6, hW6⟩ : ∃ V, W5.setRow b15 RX = V := ⟨_, rfl⟩
        have k6 : Keeps (fun _ => False) wr W6 := k5.trans' (T := fun k => k = b15) (by rw [← hW6]; exact Keeps.setRow _ _) (fun i hi e => by omega)
        have r6 : Row W6 b15 34 [.int .i64 kd, .int .i64 qi, .int .i64 qn, .int .i64 ql] := by show _ = some (Obj.cells (_ : List Value).toArray _ _); rw [hRX, ← hW6]; exact setRow_heap _ _ _ _ _ _ r5
        have T6 := Lib.hid (T.out.later k6)
        have F6 := Lib.hid (F.out.later k6)
        have K6 := Lib.hid (K.out.trans k6)
        have R5 := Lib.hid r5
        have R11 := Lib.hid r6
        have HRX := Lib.hid hRX
        have hc0 : W6.cell? ⟨b15, 0, none⟩ = some (.int .i64 kd) := r6.cell 0
        have hc1 : W6.cell? ⟨b15, 1, none⟩ = some (.int .i64 qi) := r6.cell 1
        have hc2 : W6.cell? ⟨b15, 2, none⟩ = some (.int .i64 qn) := r6.cell 2
        have hc3 : W6.cell? ⟨b15, 3, none⟩ = some (.int .i64 ql) := r6.cell 3
        obtain ⟨r, hand⟩ : ∃ r, bits .and .i64 kd 3 = r := ⟨_, rfl⟩
        clear r5 r6 k5 k6 hRX hxc hx T F K wk wi wn wl hPC
        rcases (show r = 0 ∨ r = 1 ∨ r = 2 ∨ (r ≠ 0 ∧ r ≠ 1 ∧ r ≠ 2) by omega) with hr | hr | hr | hr
        · subst hr
          as_aux_lemma =>
            go_wp2_with (first
              | (refine wpList_load_any (by rfl) 34 (.tmp 76) (by rfl) (ad.add (i * 4)) (by rfl) [.int .i64 kd, .int .i64 qi, .int .i64 qn, .int .i64 ql] _ HXC.out Try.underlying34 rfl size_act ?_)
              | (refine wpList_store_row (by rfl) 34 (.tmp 15) (.tmp 77) (by rfl) b15 RX (by rfl) (by rw [← HRX.out]; rfl) 34 ZA R5.out RXS.out (NZA.out.trans RXN.out.symm) RXO.out ?_; rw [hW6])
              | fail)
            have hbl := blame_tab W6 g b s qi qn T6.out HQN.out.2
            obtain ⟨s1, hs1⟩ : ∃ x, Sc.blame s qi qn = x := ⟨_, rfl⟩
            obtain ⟨R, hR⟩ : ∃ x, Sc.hit s qi qn = x := ⟨_, rfl⟩
            have hE := Sc.blame_lim s qi qn
            have hE2 := Sc.blame_len s qi qn
            rw [hs1] at hbl hE hE2
            rw [hR] at hbl
            refine hbl.mono ?_
            rintro e w7 ⟨rfl, t7, k7⟩
            have f7 := F6.out.turn T6.out.map k7
            obtain ⟨TC, hTC⟩ : ∃ C, tcs s.limit s.hold A1 s.ps.length c1 = C := ⟨_, rfl⟩
            have STC : Hid ((Try.prog.info? 30).map (·.size) = some TC.size) := Lib.hid (by rw [← hTC]; exact size_T)
            have RB7 : Hid (w7.heap[bw]? = some (.cells TC 30 (0, 0))) := Lib.hid (by rw [← hTC]; exact f7.row)
            have T7 := Lib.hid t7
            have F7 := Lib.hid f7
            have K7 : Hid (Keeps (fun _ => False) W w7) := Lib.hid (K6.out.trans' k7 (fun j hj e => by have := HGB.out; omega))
            have hra := R11.out.keeps k7 (fun e => T6.out.map.apart R11.out e.symm)
            have ea1 : w7.cell? ⟨b15, 1, none⟩ = some (.int .i64 qi) := hra.cell 1
            have ea2 : w7.cell? ⟨b15, 2, none⟩ = some (.int .i64 qn) := hra.cell 2
            have ea3 : w7.cell? ⟨b15, 3, none⟩ = some (.int .i64 ql) := hra.cell 3
            have hrb := rblame_any A1 s.ps.length c1 s qi qn w7 T6.out.ok rfl f7.own
            rw [hs1, hR, hTC] at hrb
            have HRB : Hid (Calls Try.prog 11 #[.agg TC, .int .i64 qi, .int .i64 qn] w7 fun e w' => ∃ A' c', e = .returned (.tuple #[.agg (tcs s1.limit s1.hold A' s1.ps.length c'), .bool R]) ∧ w'.ownsRow 0 42 2 (.slice A' s1.ps.length c') s1.ps.length (pcells s1.ps) ∧ Keeps (fun _ => False) w7 w') := Lib.hid (by rw [hE.1, hE.2, hE2]; exact hrb)
            have HTC := Lib.hid hTC
            have hRR : (R == R) = true := by simp
            clear hbl hrb hTC f7 t7 k7 hra hE hE2 hR hs1
            go_wp2_with (first
              | (refine wpList_load_row (by rfl) 30 (.tmp 12) (by rfl) bw (by rfl) 30 TC (0, 0) _ RB7.out Try.underlying30 rfl STC.out ?_)
              | fail)
            refine HRB.out.mono ?_
            rintro e w8 ⟨A8, c8, rfl, o8, k8⟩
            clear HRB
            obtain ⟨DC, hDC⟩ : ∃ C, tcs s1.limit s1.hold A8 s1.ps.length c8 = C := ⟨_, rfl⟩
            have SDC : Hid ((Try.prog.info? 30).map (·.size) = some DC.size) := Lib.hid (by rw [← hDC]; exact size_T)
            have NDC : Hid (ZT.size = DC.size) := Lib.hid (by rw [NZT.out, ← hDC]; rfl)
            have ODC : Hid (DC.all (·.oneCell') = true) := Lib.hid (by rw [← hDC]; exact tcs_one _ _ _ _ _)
            obtain ⟨b18, hb18⟩ : ∃ x, w8.heap.size = x := ⟨_, rfl⟩
            obtain ⟨w9, hw9⟩ : ∃ V, w8.alloc (.cells ZT 30) = V := ⟨_, rfl⟩
            have k9 : Keeps (fun _ => False) w8 w9 := by rw [← hw9]; exact (Keeps.refl _ _).alloc _
            have r9 : w9.heap[b18]? = some (.cells ZT 30 (0, 0)) := by rw [← hw9, ← hb18]; exact heap_alloc_new w8 _
            obtain ⟨w10, hw10⟩ : ∃ V, w9.setRow b18 DC = V := ⟨_, rfl⟩
            have k10 : Keeps (fun _ => False) w8 w10 := k9.trans' (T := fun k => k = b18) (by rw [← hw10]; exact Keeps.setRow _ _) (fun j hj e => by omega)
            have r10 : w10.heap[b18]? = some (.cells DC 30 (0, 0)) := by rw [← hw10]; exact setRow_heap _ _ _ _ _ _ r9
            have f10 := F7.out.later (k8.trans k10)
            have hb10 : w10.heap[bw]? = some (.cells TC 30 (0, 0)) := by rw [← HTC.out]; exact f10.row
            have hput := f10.put (s' := s1) (A' := A8) (c' := c8) (k10.owns o8 (fun _ _ => id))
            rw [hDC] at hput
            obtain ⟨wt, hwt⟩ : ∃ V, w10.setRow bw DC = V := ⟨_, rfl⟩
            rw [hwt] at hput
            have TT : Hid (TabAt wt g b s1) := Lib.hid (((T7.out.later (k8.trans k10)).aside (A := none) (c := 0) (.inr ⟨_, f10.row⟩) hput.2))
            have RR : Hid (RfAt wt bw s1 A8 c8) := Lib.hid hput.1
            have KW : Hid (Keeps (fun _ => False) W wt) := Lib.hid ((K7.out.trans (k8.trans k10)).trans' hput.2 (fun j hj e => by have := HBW.out; omega))
            have R9 := Lib.hid r9
            have R10 := Lib.hid r10
            have RB10 := Lib.hid hb10
            have NBC : Hid (TC.size = DC.size) := Lib.hid (by rw [← HTC.out, ← hDC]; rfl)
            rw [hDC]
            clear o8 k8 k9 r9 k10 r10 f10 hb10 hput hDC F7 T7 K7
            go_wp2_with (first
              | (refine wpList_store_row (by rfl) 30 _ _ (by rfl) b18 DC (by rfl) (by rfl) 30 ZT R9.out SDC.out NDC.out ODC.out ?_; rw [hw10])
              | (refine wpList_load_row (by rfl) 30 _ (by rfl) b18 (by rfl) 30 DC (0, 0) _ R10.out Try.underlying30 rfl SDC.out ?_)
              | (refine wpList_store_row (by rfl) 30 _ _ (by rfl) bw DC (by rfl) (by rfl) 30 TC RB10.out SDC.out NBC.out ODC.out ?_; rw [hwt])
              | fail)
            obtain ⟨n, hn⟩ : ∃ n, s1.ps.length = n := ⟨_, rfl⟩
            have hnn := TT.out.ok.many
            rw [hn] at hnn
            have hro0 := RR.out.own
            rw [hn] at hro0
            obtain ⟨g0, hg0⟩ := own_some13 hro0 (by omega)
            subst hg0
            obtain ⟨TL, hTL⟩ : ∃ L : List Value, [.int .i64 s1.limit, .int .i64 s1.hold, .slice (some ⟨g0, 0, none⟩) n c8] = L := ⟨_, rfl⟩
            have hrr := RR.out.row
            have hro := RR.out.own
            rw [hn] at hrr hro
            have HTL : Hid (∀ V, Keeps (fun _ => False) wt V → V.rangeAt bw 0 TL) := Lib.hid (fun V hV => by rw [← hTL]; exact rangeAt_row (hrr.keeps hV id))
            have STL : Hid ((Try.prog.info? 30).map (·.size) = some TL.length) := Lib.hid (by rw [← hTL]; exact size_T)
            obtain ⟨mm, hmm⟩ : ∃ m, (Sc.opens s1.ps n).length = m := ⟨_, rfl⟩
            obtain ⟨OV, hOV⟩ : ∃ v, nvs (Sc.opens s1.ps n) = v := ⟨_, rfl⟩
            have hm64 : mm ≤ 64 := by rw [← hmm]; have := Sc.opens_le s1.ps n; omega
            have HO1 : Hid (∀ V, Keeps (fun _ => False) wt V → Calls Try.prog 17 #[.pointer (some ⟨g, 0, none⟩)] V fun e w' => ∃ x : Option Addr × Nat, e = .returned (.slice x.1 mm x.2) ∧ Keeps (fun _ => False) wt w' ∧ w'.ownsRow 0 3 1 (.slice x.1 mm x.2) mm OV) := Lib.hid (fun V hV => by
              refine (open_tab V g b s1 (TT.out.later hV)).mono ?_
              rintro e w' ⟨A', m', c', rfl, hm', ho, hk⟩
              rw [hn, hmm] at hm'
              subst hm'
              rw [hn, hOV] at ho
              exact ⟨(A', c'), rfl, hV.trans hk, own_base ho (Nat.zero_le _)⟩)
            have HO2 : Hid (∀ V (A2 : Option Addr) (c2 : Nat), Keeps (fun _ => False) wt V → V.ownsRow 0 3 1 (.slice A2 mm c2) mm OV → Calls Try.prog 18 #[.agg TL.toArray] V fun e w' => ∃ x : Option Addr × Nat, e = .returned (.slice x.1 mm x.2) ∧ Keeps (fun _ => False) wt w' ∧ w'.ownsRow 0 3 1 (.slice A2 mm c2) mm OV ∧ w'.ownsRow 0 3 1 (.slice x.1 mm x.2) mm OV) := Lib.hid (fun V A2 c2 hV h2 => by
              rw [← hTL]
              refine (ropen_any (some ⟨g0, 0, none⟩) n c8 s1 V TT.out.ok hn (hV.owns hro (fun _ _ => id))).mono ?_
              rintro e w' ⟨A', m', c', rfl, hm', ho, hk⟩
              rw [hmm] at hm'
              subst hm'
              rw [hOV] at ho
              exact ⟨(A', c'), rfl, hV.trans hk, hk.owns h2 (fun _ _ => id), own_base ho (Nat.zero_le _)⟩)
            have HSM : Hid (∀ V (A2 : Option Addr) (c2 : Nat) (A3 : Option Addr) (c3 : Nat), Keeps (fun _ => False) wt V → V.ownsRow 0 3 1 (.slice A2 mm c2) mm OV → V.ownsRow 0 3 1 (.slice A3 mm c3) mm OV → Calls Try.prog 16 #[.slice A2 mm c2, .slice A3 mm c3] V fun e w' => e = .returned (.bool true) ∧ Keeps (fun _ => False) wt w' ∧ True) := Lib.hid (fun V A2 c2 A3 c3 hV h2 h3 => by
              rw [← hOV] at h2 h3
              refine (same_eq A2 A3 mm c2 c3 0 0 _ V h2 h3 hm64).mono ?_
              rintro e w' ⟨h4, h5⟩
              exact ⟨h4, hV.trans h5, trivial⟩)
            have HNN := Lib.hid (And.intro hn hnn)
            have HRR := Lib.hid (And.intro hrr hro)
            clear hn hnn hTL hrr hro hro0 hmm hOV hm64 RR
            go_wp2_with fail
            refine wp_region_stores 10 [4, 6, 7] [0, 1, 2, 3, 5, 4, 6, 7, 8, 9] (fun V => Keeps (fun _ => False) wt V) (fun V => True) (by kernel_rfl) (by kernel_rfl) (fun _ _ h k => h.trans k) (fun _ _ h _ => h) (((Keeps.refl _ _).drew)) (trivial) ?_
            refine T_quiet (get_op rfl) (by rfl) (by rfl) (by rfl) ?_
            intro K hK
            go_big_quiet_op
            first | go_big_quiet_on | go_big_quiet_call ((intro _; rfl))
            refine T_value (get_op rfl) (by rfl) (by rfl) (.bool false) (fun _ _ => by go_simp) ?_
            simp only [Act.put, List.setIfInBounds_toArray, List.set_cons_zero, List.set_cons_succ]
            refine T_quiet (get_op rfl) (by rfl) (by rfl) (by rfl) ?_
            intro K hK
            go_big_quiet_op
            first | go_big_quiet_on | go_big_quiet_call ((intro _; rfl))
            refine T_quiet (get_op rfl) (by rfl) (by rfl) (by rfl) ?_
            intro K hK
            go_big_quiet_op
            first | go_big_quiet_on | go_big_quiet_call ((intro _; rfl))
            refine T_load (get_op rfl) (by rfl) (by rfl) 30 (.tmp 12) (by rfl) bw 0 (by rfl) TL _ (fun V hV => HTL.out V hV) Try.underlying30 rfl STL.out ?_
            simp only [Act.put, List.setIfInBounds_toArray, List.set_cons_zero, List.set_cons_succ]
            refine T_enterR (get_op rfl) (by rfl) (by rfl) _ _ (fun x : Option Addr × Nat => .slice x.1 mm x.2) (fun x y h => by cases x; cases y; simp at h; simp [h]) (fun _ => by go_simp) (fun x V => V.ownsRow 0 3 1 (.slice x.1 mm x.2) mm OV) (fun x w w' h hk => hk.owns h (fun _ _ => id)) (fun V hb hf => HO1.out V hb) ?_
            intro x4
            simp only [Act.put, List.setIfInBounds_toArray, List.set_cons_zero, List.set_cons_succ]
            refine T_enterR (get_op rfl) (by rfl) (by rfl) _ _ (fun x : Option Addr × Nat => .slice x.1 mm x.2) (fun x y h => by cases x; cases y; simp at h; simp [h]) (fun _ => by go_simp) (fun x V => V.ownsRow 0 3 1 (.slice x4.1 mm x4.2) mm OV ∧ V.ownsRow 0 3 1 (.slice x.1 mm x.2) mm OV) (fun x w w' h hk => ⟨hk.owns h.1 (fun _ _ => id), hk.owns h.2 (fun _ _ => id)⟩) (fun V hb hf => HO2.out V _ _ hb hf) ?_
            intro x6
            simp only [Act.put, List.setIfInBounds_toArray, List.set_cons_zero, List.set_cons_succ]
            refine T_enter (get_op rfl) (by rfl) (by rfl) _ _ (.bool true) (fun _ => by go_simp) (fun V => True) (fun _ _ h _ => h) (fun V hb hf => HSM.out V _ _ _ _ hb hf.1 hf.2) ?_
            simp only [Act.put, List.setIfInBounds_toArray, List.set_cons_zero, List.set_cons_succ]
            refine T_value (get_op rfl) (by rfl) (by rfl) (.bool false) (fun _ _ => by go_simp) ?_
            simp only [Act.put, List.setIfInBounds_toArray, List.set_cons_zero, List.set_cons_succ]
            refine T_value (get_op rfl) (by rfl) (by rfl) (.bool false) (fun _ _ => by go_simp) ?_
            simp only [Act.put, List.setIfInBounds_toArray, List.set_cons_zero, List.set_cons_succ]
            refine T_nil ?_
            intro w30 k30 _
            simp only [List.drop_succ_cons, List.drop_zero]
            have KT : Hid (Keeps (fun _ => False) wt w30) := Lib.hid k30
            clear k30 HO1 HO2 HSM HTL STL
            have HII := Lib.hid (And.intro hil (And.intro hi6 (And.intro hi hi60)))
            clear hand hil hi6 hi hi60
            go_wp2_with fail
            go_loopw [26] (fun kv wr => ∃ kk : Int, -1 ≤ kk ∧ kk ≤ (n : Int) + 1 ∧ kv = .int .i64 kk ∧ Hid (Keeps (fun _ => False) wt wr)) (fun kv _ => ((n : Int) + 1 - intOf kv).toNat)
            case atStart => exact ⟨-1, by omega, by omega, rfl, KT⟩
            case round =>
              obtain ⟨kk, hk1, hk2, rfl, KI⟩ := hrel
              have hn64 : n ≤ 64 := HNN.out.2.2
              have hr12 : wr.cell? ⟨bw, 2, none⟩ = some (.slice (some ⟨g0, 0, none⟩) n c8) := (HRR.out.1.keeps KI.out id).cell 2
              by_cases hkn : kk ≤ (n : Int)
              · have hpe := peer_any wr g b s1 kk (TT.out.later KI.out)
                have HKI : Hid (-1 ≤ kk ∧ kk ≤ (n : Int)) := Lib.hid ⟨hk1, hkn⟩
                by_cases hin : 0 ≤ kk ∧ kk < (n : Int)
                · obtain ⟨q, rfl⟩ := Int.eq_ofNat_of_zero_le hin.1
                  rw [show Sc.has s1 (q : Int) = true from decide_eq_true (by rw [HNN.out.1]; exact hin)] at hpe
                  have hq : s1.ps[q]? = some (Sc.get s1 (q : Int)) := by
                    have := HNN.out.1
                    rw [Sc.get_D (by omega), List.getD_eq_getElem?_getD, List.getElem?_eq_getElem (by omega)]
                    rfl
                  have haw : ∀ V, Keeps (fun _ => False) wr V → Calls Try.prog 20 #[.pointer (some ⟨g, 0, none⟩), .int .i64 (q : Int)] V fun e w' => e = .returned (.bool (decide (0 < (Sc.get s1 (q : Int)).2))) ∧ Keeps (fun _ => False) V w' := fun V hV => taway_any V g b s1 _ ((TT.out.later KI.out).later hV)
                  obtain ⟨p, hp⟩ : ∃ p, Sc.get s1 (q : Int) = p := ⟨_, rfl⟩
                  rw [hp] at hpe hq haw
                  obtain ⟨x, y⟩ := p
                  obtain ⟨cx, cy⟩ := cell_own2 (KI.out.owns HRR.out.2 (fun _ _ => id)) hq (by omega)
                  dsimp only at cx cy
                  obtain ⟨C, hC⟩ : ∃ C, pc (x, y) = C := ⟨_, rfl⟩
                  rw [hC] at hpe
                  have HPE := Lib.hid hpe
                  have SC : Hid ((Try.prog.info? 40).map (·.size) = some C.size) := Lib.hid (by rw [← hC]; exact size_Peer)
                  have SZC : Hid (ZP.size = C.size) := Lib.hid (by rw [← hC, ← HZP.out]; rfl)
                  have OC : Hid (C.all (·.oneCell') = true) := Lib.hid (by rw [← hC]; exact pc_one _)
                  have HCC := Lib.hid hC
                  have HAW0 := Lib.hid haw
                  have HCX := Lib.hid (And.intro cx cy)
                  have hd1 : ((q : Int) < (n : Int)) := hin.2
                  have hd1n : q < n := by omega
                  have hd2 : q ≤ n := by omega
                  clear hpe hC haw cx cy hq hp hin hk1 hk2 hkn
                  as_aux_lemma =>
                    go_wp2_with fail
                    refine HPE.out.mono ?_
                    rintro e v1 ⟨rfl, kv1⟩
                    obtain ⟨b27, hb27⟩ : ∃ x, v1.heap.size = x := ⟨_, rfl⟩
                    obtain ⟨V2, hV2⟩ : ∃ V, v1.alloc (.cells ZP 40) = V := ⟨_, rfl⟩
                    have rv2 : V2.heap[b27]? = some (.cells ZP 40 (0, 0)) := by rw [← hV2, ← hb27]; exact heap_alloc_new v1 _
                    have kv2 : Keeps (fun _ => False) v1 V2 := by rw [← hV2]; exact (Keeps.refl _ _).alloc _
                    obtain ⟨w35, hV3⟩ : ∃ V, V2.setRow b27 C = V := ⟨_, rfl⟩
                    have kv3 : Keeps (fun _ => False) v1 w35 := kv2.trans' (T := fun k => k = b27) (by rw [← hV3]; exact Keeps.setRow _ _) (fun i hi e => by omega)
                    have rv3 : Row w35 b27 40 [.int .i64 x, .int .i64 y] := by
                      have h : w35.heap[b27]? = some (.cells C 40 (0, 0)) := by rw [← hV3]; exact setRow_heap _ _ _ _ _ _ rv2
                      rw [← HCC.out] at h
                      exact h
                    have k35 := kv1.trans kv3
                    obtain ⟨aw, haw⟩ : ∃ a, decide (0 < (x, y).2) = a := ⟨_, rfl⟩
                    have HAW35 : Hid (∀ V, Later w35 V → Calls Try.prog 20 #[.pointer (some ⟨g, 0, none⟩), .int .i64 (q : Int)] V fun e w' => e = .returned (.bool aw) ∧ Later w35 w') := Lib.hid (fun V hV => (HAW0.out V (k35.trans hV.out)).mono fun e w' h => ⟨by rw [← haw]; exact h.1, ⟨hV.out.trans h.2⟩⟩)
                    have HX35 : Hid (∀ V, Later w35 V → V.cell? ⟨b27, 0, none⟩ = some (.int .i64 x)) := Lib.hid (fun V hV => (rv3.keeps hV.out id).cell 0)
                    have HY35 : Hid (∀ V, Later w35 V → V.cell? ⟨b27, 1, none⟩ = some (.int .i64 y)) := Lib.hid (fun V hV => (rv3.keeps hV.out id).cell 1)
                    have hcp : ∀ (a : Addr) (u : Value), wr.cell? a = some u → ∀ V, Later w35 V → V.cell? a = some u := fun a u h V hV => ((k35.trans hV.out).cell (World.block_lt_of_cell? wr _ h) id).trans h
                    have HL35 := Lib.hid (hcp _ _ hr12)
                    have HPX := Lib.hid (hcp _ _ HCX.out.1)
                    have HPY := Lib.hid (hcp _ _ HCX.out.2)
                    have hr35 : w35.cell? ⟨bw, 2, none⟩ = some (.slice (some ⟨g0, 0, none⟩) n c8) := HL35.out w35 ⟨Keeps.refl _ _⟩
                    have hawd : decide (y > 0) = aw := haw
                    have RV2 := Lib.hid rv2
                    have K35 := Lib.hid (KI.out.trans k35)
                    clear rv2 kv2 kv3 rv3 kv1 k35 hcp HPE HAW0 HCC haw
                    go_wp2_with (first
                      | (refine wpList_store_row (by rfl) 40 _ _ (by rfl) b27 C (by rfl) (by rfl) 40 ZP RV2.out SC.out SZC.out OC.out ?_; rw [hV3])
                      | fail)
                    refine wp_region_class (Later w35) (by kernel_rfl) (by kernel_rfl) (⟨(Keeps.refl _ _).drew⟩) ?_
                    refine class_value (by rfl) (.bool true) (fun V hV => by go_simp) ?_
                    simp only [Act.put, List.setIfInBounds_toArray, List.set_cons_zero, List.set_cons_succ]
                    refine class_value (by rfl) (.bool true) (fun V hV => by go_simp) ?_
                    simp only [Act.put, List.setIfInBounds_toArray, List.set_cons_zero, List.set_cons_succ]
                    refine class_value (by rfl) (.bool false) (fun V hV => by go_simp) ?_
                    simp only [Act.put, List.setIfInBounds_toArray, List.set_cons_zero, List.set_cons_succ]
                    refine class_value (by rfl) (.bool false) (fun V hV => by go_simp) ?_
                    simp only [Act.put, List.setIfInBounds_toArray, List.set_cons_zero, List.set_cons_succ]
                    refine class_value (by rfl) (.bool true) (fun V hV => by go_simp) ?_
                    simp only [Act.put, List.setIfInBounds_toArray, List.set_cons_zero, List.set_cons_succ]
                    refine class_value (by rfl) (.bool true) (fun V hV => by go_simp) ?_
                    simp only [Act.put, List.setIfInBounds_toArray, List.set_cons_zero, List.set_cons_succ]
                    refine class_value (by rfl) (.pointer (some ⟨b27, 0, none⟩)) (fun V hV => by go_simp) ?_
                    simp only [Act.put, List.setIfInBounds_toArray, List.set_cons_zero, List.set_cons_succ]
                    refine class_cell (by rfl) 3 (.tmp 179) (by rfl) ⟨b27, 0, none⟩ (by rfl) (.int .i64 x) _ (fun V hV => HX35.out V hV) Try.underlying3 rfl ?_
                    simp only [Act.put, List.setIfInBounds_toArray, List.set_cons_zero, List.set_cons_succ]
                    refine class_value (by rfl) (.pointer (some ⟨bw, 2, none⟩)) (fun V hV => by go_simp) ?_
                    simp only [Act.put, List.setIfInBounds_toArray, List.set_cons_zero, List.set_cons_succ]
                    refine class_cell (by rfl) 28 (.tmp 181) (by rfl) ⟨bw, 2, none⟩ (by rfl) (.slice (some ⟨g0, 0, none⟩) n c8) _ (fun V hV => HL35.out V hV) Try.underlying28 rfl ?_
                    simp only [Act.put, List.setIfInBounds_toArray, List.set_cons_zero, List.set_cons_succ]
                    refine class_value (by rfl) (.int .i64 (q : Int)) (fun V hV => by go_simp) ?_
                    simp only [Act.put, List.setIfInBounds_toArray, List.set_cons_zero, List.set_cons_succ]
                    refine class_value (by rfl) (.pointer (some ⟨g0, q * 2, none⟩)) (fun V hV => by go_simp) ?_
                    simp only [Act.put, List.setIfInBounds_toArray, List.set_cons_zero, List.set_cons_succ]
                    refine class_value (by rfl) (.pointer (some ⟨g0, q * 2, none⟩)) (fun V hV => by go_simp) ?_
                    simp only [Act.put, List.setIfInBounds_toArray, List.set_cons_zero, List.set_cons_succ]
                    refine class_cell (by rfl) 3 (.tmp 185) (by rfl) ⟨g0, q * 2, none⟩ (by rfl) (.int .i64 x) _ (fun V hV => HPX.out V hV) Try.underlying3 rfl ?_
                    simp only [Act.put, List.setIfInBounds_toArray, List.set_cons_zero, List.set_cons_succ]
                    refine class_value (by rfl) (.bool false) (fun V hV => by go_simp) ?_
                    simp only [Act.put, List.setIfInBounds_toArray, List.set_cons_zero, List.set_cons_succ]
                    refine class_value (by rfl) (.bool false) (fun V hV => by go_simp) ?_
                    simp only [Act.put, List.setIfInBounds_toArray, List.set_cons_zero, List.set_cons_succ]
                    refine class_value (by rfl) (.pointer (some ⟨b27, 1, none⟩)) (fun V hV => by go_simp) ?_
                    simp only [Act.put, List.setIfInBounds_toArray, List.set_cons_zero, List.set_cons_succ]
                    refine class_cell (by rfl) 3 (.tmp 189) (by rfl) ⟨b27, 1, none⟩ (by rfl) (.int .i64 y) _ (fun V hV => HY35.out V hV) Try.underlying3 rfl ?_
                    simp only [Act.put, List.setIfInBounds_toArray, List.set_cons_zero, List.set_cons_succ]
                    refine class_value (by rfl) (.pointer (some ⟨bw, 2, none⟩)) (fun V hV => by go_simp) ?_
                    simp only [Act.put, List.setIfInBounds_toArray, List.set_cons_zero, List.set_cons_succ]
                    refine class_cell (by rfl) 28 (.tmp 191) (by rfl) ⟨bw, 2, none⟩ (by rfl) (.slice (some ⟨g0, 0, none⟩) n c8) _ (fun V hV => HL35.out V hV) Try.underlying28 rfl ?_
                    simp only [Act.put, List.setIfInBounds_toArray, List.set_cons_zero, List.set_cons_succ]
                    refine class_value (by rfl) (.int .i64 (q : Int)) (fun V hV => by go_simp) ?_
                    simp only [Act.put, List.setIfInBounds_toArray, List.set_cons_zero, List.set_cons_succ]
                    refine class_value (by rfl) (.pointer (some ⟨g0, q * 2, none⟩)) (fun V hV => by go_simp) ?_
                    simp only [Act.put, List.setIfInBounds_toArray, List.set_cons_zero, List.set_cons_succ]
                    refine class_value (by rfl) (.pointer (some ⟨g0, q * 2 + 1, none⟩)) (fun V hV => by go_simp) ?_
                    simp only [Act.put, List.setIfInBounds_toArray, List.set_cons_zero, List.set_cons_succ]
                    refine class_cell (by rfl) 3 (.tmp 195) (by rfl) ⟨g0, q * 2 + 1, none⟩ (by rfl) (.int .i64 y) _ (fun V hV => HPY.out V hV) Try.underlying3 rfl ?_
                    simp only [Act.put, List.setIfInBounds_toArray, List.set_cons_zero, List.set_cons_succ]
                    refine class_value (by rfl) (.bool false) (fun V hV => by go_simp) ?_
                    simp only [Act.put, List.setIfInBounds_toArray, List.set_cons_zero, List.set_cons_succ]
                    refine class_value (by rfl) (.bool false) (fun V hV => by go_simp) ?_
                    simp only [Act.put, List.setIfInBounds_toArray, List.set_cons_zero, List.set_cons_succ]
                    refine class_value (by rfl) (.bool false) (fun V hV => by go_simp) ?_
                    simp only [Act.put, List.setIfInBounds_toArray, List.set_cons_zero, List.set_cons_succ]
                    refine class_value (by rfl) (.pointer (some ⟨g, 0, none⟩)) (fun V hV => by go_simp) ?_
                    simp only [Act.put, List.setIfInBounds_toArray, List.set_cons_zero, List.set_cons_succ]
                    refine class_value (by rfl) (.int .i64 (q : Int)) (fun V hV => by go_simp) ?_
                    simp only [Act.put, List.setIfInBounds_toArray, List.set_cons_zero, List.set_cons_succ]
                    refine class_callW (by rfl) _ _ (.bool aw) (fun _ => by go_simp) (fun V hV => HAW35.out V hV) ?_
                    simp only [Act.put, List.setIfInBounds_toArray, List.set_cons_zero, List.set_cons_succ]
                    refine class_value (by rfl) (.pointer (some ⟨b27, 1, none⟩)) (fun V hV => by go_simp) ?_
                    simp only [Act.put, List.setIfInBounds_toArray, List.set_cons_zero, List.set_cons_succ]
                    refine class_cell (by rfl) 3 (.tmp 203) (by rfl) ⟨b27, 1, none⟩ (by rfl) (.int .i64 y) _ (fun V hV => HY35.out V hV) Try.underlying3 rfl ?_
                    simp only [Act.put, List.setIfInBounds_toArray, List.set_cons_zero, List.set_cons_succ]
                    refine class_value (by rfl) (.bool aw) (fun V hV => by go_simp) ?_
                    simp only [Act.put, List.setIfInBounds_toArray, List.set_cons_zero, List.set_cons_succ]
                    refine class_value (by rfl) (.bool false) (fun V hV => by go_simp) ?_
                    simp only [Act.put, List.setIfInBounds_toArray, List.set_cons_zero, List.set_cons_succ]
                    refine class_value (by rfl) (.bool false) (fun V hV => by go_simp) ?_
                    simp only [Act.put, List.setIfInBounds_toArray, List.set_cons_zero, List.set_cons_succ]
                    refine class_value (by rfl) (.bool false) (fun V hV => by go_simp) ?_
                    simp only [Act.put, List.setIfInBounds_toArray, List.set_cons_zero, List.set_cons_succ]
                    refine class_value (by rfl) (.bool false) (fun V hV => by go_simp) ?_
                    simp only [Act.put, List.setIfInBounds_toArray, List.set_cons_zero, List.set_cons_succ]
                    refine class_value (by rfl) (.bool false) (fun V hV => by go_simp) ?_
                    simp only [Act.put, List.setIfInBounds_toArray, List.set_cons_zero, List.set_cons_succ]
                    refine class_value (by rfl) (.bool true) (fun V hV => by go_simp) ?_
                    simp only [Act.put, List.setIfInBounds_toArray, List.set_cons_zero, List.set_cons_succ]
                    refine class_value (by rfl) (.bool false) (fun V hV => by go_simp) ?_
                    simp only [Act.put, List.setIfInBounds_toArray, List.set_cons_zero, List.set_cons_succ]
                    refine class_value (by rfl) (.bool false) (fun V hV => by go_simp) ?_
                    simp only [Act.put, List.setIfInBounds_toArray, List.set_cons_zero, List.set_cons_succ]
                    go_big_quiet_skip
                    go_big_quiet_skip
                    go_big_quiet_skip
                    refine class_value (by rfl) (.bool false) (fun V hV => by go_simp) ?_
                    simp only [Act.put, List.setIfInBounds_toArray, List.set_cons_zero, List.set_cons_succ]
                    refine class_value (by rfl) (.bool false) (fun V hV => by go_simp) ?_
                    simp only [Act.put, List.setIfInBounds_toArray, List.set_cons_zero, List.set_cons_succ]
                    refine wpQuiet_nil ?_
                    intro w37 k37
                    have K37 := Lib.hid (K35.out.trans k37.out)
                    clear k37
                    go_wp2
                    go_roundw
                    case rel => exact ⟨(q : Int) + 1, by omega, by omega, by go_num, K37⟩
                    case measure => first | (simp [intOf]; done) | (simp [intOf]; omega)
                · rw [show Sc.has s1 kk = false from decide_eq_false (by rw [HNN.out.1]; exact hin), show Sc.get s1 kk = (0, 0) by unfold Sc.get; rw [if_neg (by rw [HNN.out.1]; exact hin)], HZP.out] at hpe
                  have HPE := Lib.hid hpe
                  have haw : ∀ V, Keeps (fun _ => False) wr V → Calls Try.prog 20 #[.pointer (some ⟨g, 0, none⟩), .int .i64 kk] V fun e w' => e = .returned (.bool false) ∧ Keeps (fun _ => False) V w' := fun V hV => by
                    have := taway_any V g b s1 kk ((TT.out.later KI.out).later hV)
                    rwa [show Sc.get s1 kk = (0, 0) by unfold Sc.get; rw [if_neg (by rw [HNN.out.1]; exact hin)]] at this
                  have HAW0 := Lib.hid haw
                  have hd0 : kk ≤ (n : Int) := hkn
                  have HKB : Hid (-1 ≤ kk ∧ kk ≤ (n : Int)) := Lib.hid ⟨hk1, hkn⟩
                  rcases (show (kk = -1) ∨ (kk = (n : Int)) by omega) with hke | hke
                  · subst hke
                    clear hpe haw hin hk1 hk2 hkn
                    go_wp2_with fail
                    refine HPE.out.mono ?_
                    rintro e v1 ⟨rfl, kv1⟩
                    obtain ⟨b27, hb27⟩ : ∃ x, v1.heap.size = x := ⟨_, rfl⟩
                    obtain ⟨V2, hV2⟩ : ∃ V, v1.alloc (.cells ZP 40) = V := ⟨_, rfl⟩
                    have rv2 : V2.heap[b27]? = some (.cells ZP 40 (0, 0)) := by rw [← hV2, ← hb27]; exact heap_alloc_new v1 _
                    have kv2 : Keeps (fun _ => False) v1 V2 := by rw [← hV2]; exact (Keeps.refl _ _).alloc _
                    obtain ⟨w35, hV3⟩ : ∃ V, V2.setRow b27 ZP = V := ⟨_, rfl⟩
                    have kv3 : Keeps (fun _ => False) v1 w35 := kv2.trans' (T := fun k => k = b27) (by rw [← hV3]; exact Keeps.setRow _ _) (fun i hi e => by omega)
                    have k35 := kv1.trans kv3
                    have HAW35 := Lib.hid (fun (V : World) (hV : Later w35 V) => (HAW0.out V (k35.trans hV.out)).mono (fun e w' h => (⟨h.1, ⟨hV.out.trans h.2⟩⟩ : e = .returned (.bool false) ∧ Later w35 w')))
                    have hr35 : w35.cell? ⟨bw, 2, none⟩ = some (.slice (some ⟨g0, 0, none⟩) n c8) := (k35.cell (World.block_lt_of_cell? wr _ hr12) id).trans hr12
                    have RV2 := Lib.hid rv2
                    have K35 := Lib.hid (KI.out.trans k35)
                    clear rv2 kv2 kv3 kv1 k35 HPE HAW0
                    go_wp2_with (first
                      | (refine wpList_store_row (by rfl) 40 _ _ (by rfl) b27 ZP (by rfl) (by rfl) 40 ZP RV2.out SZP.out rfl OZP.out ?_; rw [hV3])
                      | fail)
                    refine wp_region_class (Later w35) (by kernel_rfl) (by kernel_rfl) (⟨(Keeps.refl _ _).drew⟩) ?_
                    refine class_value (by rfl) (.bool false) (fun V hV => by go_simp) ?_
                    simp only [Act.put, List.setIfInBounds_toArray, List.set_cons_zero, List.set_cons_succ]
                    refine class_value (by rfl) (.bool false) (fun V hV => by go_simp) ?_
                    simp only [Act.put, List.setIfInBounds_toArray, List.set_cons_zero, List.set_cons_succ]
                    refine class_value (by rfl) (.bool false) (fun V hV => by go_simp) ?_
                    simp only [Act.put, List.setIfInBounds_toArray, List.set_cons_zero, List.set_cons_succ]
                    refine class_value (by rfl) (.bool false) (fun V hV => by go_simp) ?_
                    simp only [Act.put, List.setIfInBounds_toArray, List.set_cons_zero, List.set_cons_succ]
                    refine class_value (by rfl) (.bool false) (fun V hV => by go_simp) ?_
                    simp only [Act.put, List.setIfInBounds_toArray, List.set_cons_zero, List.set_cons_succ]
                    refine class_value (by rfl) (.bool false) (fun V hV => by go_simp) ?_
                    simp only [Act.put, List.setIfInBounds_toArray, List.set_cons_zero, List.set_cons_succ]
                    go_big_quiet_skip
                    go_big_quiet_skip
                    go_big_quiet_skip
                    go_big_quiet_skip
                    go_big_quiet_skip
                    go_big_quiet_skip
                    go_big_quiet_skip
                    go_big_quiet_skip
                    go_big_quiet_skip
                    go_big_quiet_skip
                    go_big_quiet_skip
                    go_big_quiet_skip
                    go_big_quiet_skip
                    go_big_quiet_skip
                    go_big_quiet_skip
                    go_big_quiet_skip
                    go_big_quiet_skip
                    go_big_quiet_skip
                    go_big_quiet_skip
                    go_big_quiet_skip
                    go_big_quiet_skip
                    go_big_quiet_skip
                    go_big_quiet_skip
                    go_big_quiet_skip
                    go_big_quiet_skip
                    go_big_quiet_skip
                    go_big_quiet_skip
                    go_big_quiet_skip
                    go_big_quiet_skip
                    refine class_value (by rfl) (.bool false) (fun V hV => by go_simp) ?_
                    simp only [Act.put, List.setIfInBounds_toArray, List.set_cons_zero, List.set_cons_succ]
                    refine class_value (by rfl) (.bool false) (fun V hV => by go_simp) ?_
                    simp only [Act.put, List.setIfInBounds_toArray, List.set_cons_zero, List.set_cons_succ]
                    refine class_value (by rfl) (.bool false) (fun V hV => by go_simp) ?_
                    simp only [Act.put, List.setIfInBounds_toArray, List.set_cons_zero, List.set_cons_succ]
                    refine class_value (by rfl) (.bool false) (fun V hV => by go_simp) ?_
                    simp only [Act.put, List.setIfInBounds_toArray, List.set_cons_zero, List.set_cons_succ]
                    refine class_value (by rfl) (.bool true) (fun V hV => by go_simp) ?_
                    simp only [Act.put, List.setIfInBounds_toArray, List.set_cons_zero, List.set_cons_succ]
                    refine class_value (by rfl) (.bool true) (fun V hV => by go_simp) ?_
                    simp only [Act.put, List.setIfInBounds_toArray, List.set_cons_zero, List.set_cons_succ]
                    refine class_value (by rfl) (.pointer (some ⟨g, 0, none⟩)) (fun V hV => by go_simp) ?_
                    simp only [Act.put, List.setIfInBounds_toArray, List.set_cons_zero, List.set_cons_succ]
                    refine class_value (by rfl) (.int .i64 (-1)) (fun V hV => by go_simp) ?_
                    simp only [Act.put, List.setIfInBounds_toArray, List.set_cons_zero, List.set_cons_succ]
                    refine class_callW (by rfl) _ _ (.bool false) (fun _ => by go_simp) (fun V hV => HAW35.out V hV) ?_
                    simp only [Act.put, List.setIfInBounds_toArray, List.set_cons_zero, List.set_cons_succ]
                    refine class_value (by rfl) (.bool false) (fun V hV => by go_simp) ?_
                    simp only [Act.put, List.setIfInBounds_toArray, List.set_cons_zero, List.set_cons_succ]
                    refine class_value (by rfl) (.bool false) (fun V hV => by go_simp) ?_
                    simp only [Act.put, List.setIfInBounds_toArray, List.set_cons_zero, List.set_cons_succ]
                    refine wpQuiet_nil ?_
                    intro w37 k37
                    have K37 := Lib.hid (K35.out.trans k37.out)
                    clear k37
                    go_wp2
                    go_roundw
                    case rel => exact ⟨(-1) + 1, by omega, by omega, by go_num, K37⟩
                    case measure => first | (simp [intOf]; done) | (simp [intOf]; omega)
                  · subst hke
                    clear hpe haw hin hk1 hk2 hkn
                    go_wp2_with fail
                    refine HPE.out.mono ?_
                    rintro e v1 ⟨rfl, kv1⟩
                    obtain ⟨b27, hb27⟩ : ∃ x, v1.heap.size = x := ⟨_, rfl⟩
                    obtain ⟨V2, hV2⟩ : ∃ V, v1.alloc (.cells ZP 40) = V := ⟨_, rfl⟩
                    have rv2 : V2.heap[b27]? = some (.cells ZP 40 (0, 0)) := by rw [← hV2, ← hb27]; exact heap_alloc_new v1 _
                    have kv2 : Keeps (fun _ => False) v1 V2 := by rw [← hV2]; exact (Keeps.refl _ _).alloc _
                    obtain ⟨w35, hV3⟩ : ∃ V, V2.setRow b27 ZP = V := ⟨_, rfl⟩
                    have kv3 : Keeps (fun _ => False) v1 w35 := kv2.trans' (T := fun k => k = b27) (by rw [← hV3]; exact Keeps.setRow _ _) (fun i hi e => by omega)
                    have k35 := kv1.trans kv3
                    have HAW35 := Lib.hid (fun (V : World) (hV : Later w35 V) => (HAW0.out V (k35.trans hV.out)).mono (fun e w' h => (⟨h.1, ⟨hV.out.trans h.2⟩⟩ : e = .returned (.bool false) ∧ Later w35 w')))
                    have hr35 : w35.cell? ⟨bw, 2, none⟩ = some (.slice (some ⟨g0, 0, none⟩) n c8) := (k35.cell (World.block_lt_of_cell? wr _ hr12) id).trans hr12
                    have RV2 := Lib.hid rv2
                    have K35 := Lib.hid (KI.out.trans k35)
                    clear rv2 kv2 kv3 kv1 k35 HPE HAW0
                    go_wp2_with (first
                      | (refine wpList_store_row (by rfl) 40 _ _ (by rfl) b27 ZP (by rfl) (by rfl) 40 ZP RV2.out SZP.out rfl OZP.out ?_; rw [hV3])
                      | fail)
                    refine wp_region_class (Later w35) (by kernel_rfl) (by kernel_rfl) (⟨(Keeps.refl _ _).drew⟩) ?_
                    refine class_value (by rfl) (.bool false) (fun V hV => by go_simp) ?_
                    simp only [Act.put, List.setIfInBounds_toArray, List.set_cons_zero, List.set_cons_succ]
                    refine class_value (by rfl) (.bool false) (fun V hV => by go_simp) ?_
                    simp only [Act.put, List.setIfInBounds_toArray, List.set_cons_zero, List.set_cons_succ]
                    refine class_value (by rfl) (.bool false) (fun V hV => by go_simp) ?_
                    simp only [Act.put, List.setIfInBounds_toArray, List.set_cons_zero, List.set_cons_succ]
                    refine class_value (by rfl) (.bool false) (fun V hV => by go_simp) ?_
                    simp only [Act.put, List.setIfInBounds_toArray, List.set_cons_zero, List.set_cons_succ]
                    refine class_value (by rfl) (.bool false) (fun V hV => by go_simp) ?_
                    simp only [Act.put, List.setIfInBounds_toArray, List.set_cons_zero, List.set_cons_succ]
                    refine class_value (by rfl) (.bool false) (fun V hV => by go_simp) ?_
                    simp only [Act.put, List.setIfInBounds_toArray, List.set_cons_zero, List.set_cons_succ]
                    go_big_quiet_skip
                    go_big_quiet_skip
                    go_big_quiet_skip
                    go_big_quiet_skip
                    go_big_quiet_skip
                    go_big_quiet_skip
                    go_big_quiet_skip
                    go_big_quiet_skip
                    go_big_quiet_skip
                    go_big_quiet_skip
                    go_big_quiet_skip
                    go_big_quiet_skip
                    go_big_quiet_skip
                    go_big_quiet_skip
                    go_big_quiet_skip
                    go_big_quiet_skip
                    go_big_quiet_skip
                    go_big_quiet_skip
                    go_big_quiet_skip
                    go_big_quiet_skip
                    go_big_quiet_skip
                    go_big_quiet_skip
                    go_big_quiet_skip
                    go_big_quiet_skip
                    go_big_quiet_skip
                    go_big_quiet_skip
                    go_big_quiet_skip
                    go_big_quiet_skip
                    go_big_quiet_skip
                    refine class_value (by rfl) (.bool false) (fun V hV => by go_simp) ?_
                    simp only [Act.put, List.setIfInBounds_toArray, List.set_cons_zero, List.set_cons_succ]
                    refine class_value (by rfl) (.bool false) (fun V hV => by go_simp) ?_
                    simp only [Act.put, List.setIfInBounds_toArray, List.set_cons_zero, List.set_cons_succ]
                    refine class_value (by rfl) (.bool false) (fun V hV => by go_simp) ?_
                    simp only [Act.put, List.setIfInBounds_toArray, List.set_cons_zero, List.set_cons_succ]
                    refine class_value (by rfl) (.bool false) (fun V hV => by go_simp) ?_
                    simp only [Act.put, List.setIfInBounds_toArray, List.set_cons_zero, List.set_cons_succ]
                    refine class_value (by rfl) (.bool true) (fun V hV => by go_simp) ?_
                    simp only [Act.put, List.setIfInBounds_toArray, List.set_cons_zero, List.set_cons_succ]
                    refine class_value (by rfl) (.bool true) (fun V hV => by go_simp) ?_
                    simp only [Act.put, List.setIfInBounds_toArray, List.set_cons_zero, List.set_cons_succ]
                    refine class_value (by rfl) (.pointer (some ⟨g, 0, none⟩)) (fun V hV => by go_simp) ?_
                    simp only [Act.put, List.setIfInBounds_toArray, List.set_cons_zero, List.set_cons_succ]
                    refine class_value (by rfl) (.int .i64 (n : Int)) (fun V hV => by go_simp) ?_
                    simp only [Act.put, List.setIfInBounds_toArray, List.set_cons_zero, List.set_cons_succ]
                    refine class_callW (by rfl) _ _ (.bool false) (fun _ => by go_simp) (fun V hV => HAW35.out V hV) ?_
                    simp only [Act.put, List.setIfInBounds_toArray, List.set_cons_zero, List.set_cons_succ]
                    refine class_value (by rfl) (.bool false) (fun V hV => by go_simp) ?_
                    simp only [Act.put, List.setIfInBounds_toArray, List.set_cons_zero, List.set_cons_succ]
                    refine class_value (by rfl) (.bool false) (fun V hV => by go_simp) ?_
                    simp only [Act.put, List.setIfInBounds_toArray, List.set_cons_zero, List.set_cons_succ]
                    refine wpQuiet_nil ?_
                    intro w37 k37
                    have K37 := Lib.hid (K35.out.trans k37.out)
                    clear k37
                    go_wp2
                    go_roundw
                    case rel => exact ⟨(n : Int) + 1, by omega, by omega, by go_num, K37⟩
                    case measure => first | (simp [intOf]; done) | (simp [intOf]; omega)
              · obtain rfl : kk = (n : Int) + 1 := by omega
                have hd0 : ¬ (n : Int) + 1 ≤ (n : Int) := by omega
                clear hk1 hk2 hkn
                go_wp2
                go_roundw
                case rel => exact ⟨i + 1, s1, some ⟨g0, 0, none⟩, c8, by have := HII.out; omega, by have := HII.out; omega, by go_num, Lib.hid (TT.out.later KI.out), Lib.hid ((show RfAt wt bw s1 (some ⟨g0, 0, none⟩) c8 from ⟨by rw [HNN.out.1]; exact HRR.out.1, by rw [HNN.out.1]; exact HRR.out.2⟩).later KI.out), Lib.hid (KW.out.trans KI.out)⟩
                case measure => first | (simp [intOf]; done) | (simp [intOf]; omega)
        · subst hr
          as_aux_lemma =>
            go_wp2_with (first
              | (refine wpList_load_any (by rfl) 34 (.tmp 76) (by rfl) (ad.add (i * 4)) (by rfl) [.int .i64 kd, .int .i64 qi, .int .i64 qn, .int .i64 ql] _ HXC.out Try.underlying34 rfl size_act ?_)
              | (refine wpList_store_row (by rfl) 34 (.tmp 15) (.tmp 77) (by rfl) b15 RX (by rfl) (by rw [← HRX.out]; rfl) 34 ZA R5.out RXS.out (NZA.out.trans RXN.out.symm) RXO.out ?_; rw [hW6])
              | fail)
            have hbl := blame_tab W6 g b s qi qn T6.out HQN.out.2
            obtain ⟨s1, hs1⟩ : ∃ x, Sc.blame s qi qn = x := ⟨_, rfl⟩
            obtain ⟨R, hR⟩ : ∃ x, Sc.hit s qi qn = x := ⟨_, rfl⟩
            have hE := Sc.blame_lim s qi qn
            have hE2 := Sc.blame_len s qi qn
            rw [hs1] at hbl hE hE2
            rw [hR] at hbl
            refine hbl.mono ?_
            rintro e w7 ⟨rfl, t7, k7⟩
            have f7 := F6.out.turn T6.out.map k7
            obtain ⟨TC, hTC⟩ : ∃ C, tcs s.limit s.hold A1 s.ps.length c1 = C := ⟨_, rfl⟩
            have STC : Hid ((Try.prog.info? 30).map (·.size) = some TC.size) := Lib.hid (by rw [← hTC]; exact size_T)
            have RB7 : Hid (w7.heap[bw]? = some (.cells TC 30 (0, 0))) := Lib.hid (by rw [← hTC]; exact f7.row)
            have T7 := Lib.hid t7
            have F7 := Lib.hid f7
            have K7 : Hid (Keeps (fun _ => False) W w7) := Lib.hid (K6.out.trans' k7 (fun j hj e => by have := HGB.out; omega))
            have hra := R11.out.keeps k7 (fun e => T6.out.map.apart R11.out e.symm)
            have ea1 : w7.cell? ⟨b15, 1, none⟩ = some (.int .i64 qi) := hra.cell 1
            have ea2 : w7.cell? ⟨b15, 2, none⟩ = some (.int .i64 qn) := hra.cell 2
            have ea3 : w7.cell? ⟨b15, 3, none⟩ = some (.int .i64 ql) := hra.cell 3
            have hrb := rblame_any A1 s.ps.length c1 s qi qn w7 T6.out.ok rfl f7.own
            rw [hs1, hR, hTC] at hrb
            have HRB : Hid (Calls Try.prog 11 #[.agg TC, .int .i64 qi, .int .i64 qn] w7 fun e w' => ∃ A' c', e = .returned (.tuple #[.agg (tcs s1.limit s1.hold A' s1.ps.length c'), .bool R]) ∧ w'.ownsRow 0 42 2 (.slice A' s1.ps.length c') s1.ps.length (pcells s1.ps) ∧ Keeps (fun _ => False) w7 w') := Lib.hid (by rw [hE.1, hE.2, hE2]; exact hrb)
            have HTC := Lib.hid hTC
            have hRR : (R == R) = true := by simp
            clear hbl hrb hTC f7 t7 k7 hra hE hE2 hR hs1
            go_wp2_with (first
              | (refine wpList_load_row (by rfl) 30 (.tmp 12) (by rfl) bw (by rfl) 30 TC (0, 0) _ RB7.out Try.underlying30 rfl STC.out ?_)
              | fail)
            refine HRB.out.mono ?_
            rintro e w8 ⟨A8, c8, rfl, o8, k8⟩
            clear HRB
            obtain ⟨DC, hDC⟩ : ∃ C, tcs s1.limit s1.hold A8 s1.ps.length c8 = C := ⟨_, rfl⟩
            have SDC : Hid ((Try.prog.info? 30).map (·.size) = some DC.size) := Lib.hid (by rw [← hDC]; exact size_T)
            have NDC : Hid (ZT.size = DC.size) := Lib.hid (by rw [NZT.out, ← hDC]; rfl)
            have ODC : Hid (DC.all (·.oneCell') = true) := Lib.hid (by rw [← hDC]; exact tcs_one _ _ _ _ _)
            obtain ⟨b18, hb18⟩ : ∃ x, w8.heap.size = x := ⟨_, rfl⟩
            obtain ⟨w9, hw9⟩ : ∃ V, w8.alloc (.cells ZT 30) = V := ⟨_, rfl⟩
            have k9 : Keeps (fun _ => False) w8 w9 := by rw [← hw9]; exact (Keeps.refl _ _).alloc _
            have r9 : w9.heap[b18]? = some (.cells ZT 30 (0, 0)) := by rw [← hw9, ← hb18]; exact heap_alloc_new w8 _
            obtain ⟨w10, hw10⟩ : ∃ V, w9.setRow b18 DC = V := ⟨_, rfl⟩
            have k10 : Keeps (fun _ => False) w8 w10 := k9.trans' (T := fun k => k = b18) (by rw [← hw10]; exact Keeps.setRow _ _) (fun j hj e => by omega)
            have r10 : w10.heap[b18]? = some (.cells DC 30 (0, 0)) := by rw [← hw10]; exact setRow_heap _ _ _ _ _ _ r9
            have f10 := F7.out.later (k8.trans k10)
            have hb10 : w10.heap[bw]? = some (.cells TC 30 (0, 0)) := by rw [← HTC.out]; exact f10.row
            have hput := f10.put (s' := s1) (A' := A8) (c' := c8) (k10.owns o8 (fun _ _ => id))
            rw [hDC] at hput
            obtain ⟨wt, hwt⟩ : ∃ V, w10.setRow bw DC = V := ⟨_, rfl⟩
            rw [hwt] at hput
            have TT : Hid (TabAt wt g b s1) := Lib.hid (((T7.out.later (k8.trans k10)).aside (A := none) (c := 0) (.inr ⟨_, f10.row⟩) hput.2))
            have RR : Hid (RfAt wt bw s1 A8 c8) := Lib.hid hput.1
            have KW : Hid (Keeps (fun _ => False) W wt) := Lib.hid ((K7.out.trans (k8.trans k10)).trans' hput.2 (fun j hj e => by have := HBW.out; omega))
            have R9 := Lib.hid r9
            have R10 := Lib.hid r10
            have RB10 := Lib.hid hb10
            have NBC : Hid (TC.size = DC.size) := Lib.hid (by rw [← HTC.out, ← hDC]; rfl)
            rw [hDC]
            clear o8 k8 k9 r9 k10 r10 f10 hb10 hput hDC F7 T7 K7
            go_wp2_with (first
              | (refine wpList_store_row (by rfl) 30 _ _ (by rfl) b18 DC (by rfl) (by rfl) 30 ZT R9.out SDC.out NDC.out ODC.out ?_; rw [hw10])
              | (refine wpList_load_row (by rfl) 30 _ (by rfl) b18 (by rfl) 30 DC (0, 0) _ R10.out Try.underlying30 rfl SDC.out ?_)
              | (refine wpList_store_row (by rfl) 30 _ _ (by rfl) bw DC (by rfl) (by rfl) 30 TC RB10.out SDC.out NBC.out ODC.out ?_; rw [hwt])
              | fail)
            obtain ⟨n, hn⟩ : ∃ n, s1.ps.length = n := ⟨_, rfl⟩
            have hnn := TT.out.ok.many
            rw [hn] at hnn
            have hro0 := RR.out.own
            rw [hn] at hro0
            obtain ⟨g0, hg0⟩ := own_some13 hro0 (by omega)
            subst hg0
            obtain ⟨TL, hTL⟩ : ∃ L : List Value, [.int .i64 s1.limit, .int .i64 s1.hold, .slice (some ⟨g0, 0, none⟩) n c8] = L := ⟨_, rfl⟩
            have hrr := RR.out.row
            have hro := RR.out.own
            rw [hn] at hrr hro
            have HTL : Hid (∀ V, Keeps (fun _ => False) wt V → V.rangeAt bw 0 TL) := Lib.hid (fun V hV => by rw [← hTL]; exact rangeAt_row (hrr.keeps hV id))
            have STL : Hid ((Try.prog.info? 30).map (·.size) = some TL.length) := Lib.hid (by rw [← hTL]; exact size_T)
            obtain ⟨mm, hmm⟩ : ∃ m, (Sc.opens s1.ps n).length = m := ⟨_, rfl⟩
            obtain ⟨OV, hOV⟩ : ∃ v, nvs (Sc.opens s1.ps n) = v := ⟨_, rfl⟩
            have hm64 : mm ≤ 64 := by rw [← hmm]; have := Sc.opens_le s1.ps n; omega
            have HO1 : Hid (∀ V, Keeps (fun _ => False) wt V → Calls Try.prog 17 #[.pointer (some ⟨g, 0, none⟩)] V fun e w' => ∃ x : Option Addr × Nat, e = .returned (.slice x.1 mm x.2) ∧ Keeps (fun _ => False) wt w' ∧ w'.ownsRow 0 3 1 (.slice x.1 mm x.2) mm OV) := Lib.hid (fun V hV => by
              refine (open_tab V g b s1 (TT.out.later hV)).mono ?_
              rintro e w' ⟨A', m', c', rfl, hm', ho, hk⟩
              rw [hn, hmm] at hm'
              subst hm'
              rw [hn, hOV] at ho
              exact ⟨(A', c'), rfl, hV.trans hk, own_base ho (Nat.zero_le _)⟩)
            have HO2 : Hid (∀ V (A2 : Option Addr) (c2 : Nat), Keeps (fun _ => False) wt V → V.ownsRow 0 3 1 (.slice A2 mm c2) mm OV → Calls Try.prog 18 #[.agg TL.toArray] V fun e w' => ∃ x : Option Addr × Nat, e = .returned (.slice x.1 mm x.2) ∧ Keeps (fun _ => False) wt w' ∧ w'.ownsRow 0 3 1 (.slice A2 mm c2) mm OV ∧ w'.ownsRow 0 3 1 (.slice x.1 mm x.2) mm OV) := Lib.hid (fun V A2 c2 hV h2 => by
              rw [← hTL]
              refine (ropen_any (some ⟨g0, 0, none⟩) n c8 s1 V TT.out.ok hn (hV.owns hro (fun _ _ => id))).mono ?_
              rintro e w' ⟨A', m', c', rfl, hm', ho, hk⟩
              rw [hmm] at hm'
              subst hm'
              rw [hOV] at ho
              exact ⟨(A', c'), rfl, hV.trans hk, hk.owns h2 (fun _ _ => id), own_base ho (Nat.zero_le _)⟩)
            have HSM : Hid (∀ V (A2 : Option Addr) (c2 : Nat) (A3 : Option Addr) (c3 : Nat), Keeps (fun _ => False) wt V → V.ownsRow 0 3 1 (.slice A2 mm c2) mm OV → V.ownsRow 0 3 1 (.slice A3 mm c3) mm OV → Calls Try.prog 16 #[.slice A2 mm c2, .slice A3 mm c3] V fun e w' => e = .returned (.bool true) ∧ Keeps (fun _ => False) wt w' ∧ True) := Lib.hid (fun V A2 c2 A3 c3 hV h2 h3 => by
              rw [← hOV] at h2 h3
              refine (same_eq A2 A3 mm c2 c3 0 0 _ V h2 h3 hm64).mono ?_
              rintro e w' ⟨h4, h5⟩
              exact ⟨h4, hV.trans h5, trivial⟩)
            have HNN := Lib.hid (And.intro hn hnn)
            have HRR := Lib.hid (And.intro hrr hro)
            clear hn hnn hTL hrr hro hro0 hmm hOV hm64 RR
            go_wp2_with fail
            refine wp_region_stores 10 [4, 6, 7] [0, 1, 2, 3, 5, 4, 6, 7, 8, 9] (fun V => Keeps (fun _ => False) wt V) (fun V => True) (by kernel_rfl) (by kernel_rfl) (fun _ _ h k => h.trans k) (fun _ _ h _ => h) (((Keeps.refl _ _).drew)) (trivial) ?_
            refine T_quiet (get_op rfl) (by rfl) (by rfl) (by rfl) ?_
            intro K hK
            go_big_quiet_op
            first | go_big_quiet_on | go_big_quiet_call ((intro _; rfl))
            refine T_value (get_op rfl) (by rfl) (by rfl) (.bool false) (fun _ _ => by go_simp) ?_
            simp only [Act.put, List.setIfInBounds_toArray, List.set_cons_zero, List.set_cons_succ]
            refine T_quiet (get_op rfl) (by rfl) (by rfl) (by rfl) ?_
            intro K hK
            go_big_quiet_op
            first | go_big_quiet_on | go_big_quiet_call ((intro _; rfl))
            refine T_quiet (get_op rfl) (by rfl) (by rfl) (by rfl) ?_
            intro K hK
            go_big_quiet_op
            first | go_big_quiet_on | go_big_quiet_call ((intro _; rfl))
            refine T_load (get_op rfl) (by rfl) (by rfl) 30 (.tmp 12) (by rfl) bw 0 (by rfl) TL _ (fun V hV => HTL.out V hV) Try.underlying30 rfl STL.out ?_
            simp only [Act.put, List.setIfInBounds_toArray, List.set_cons_zero, List.set_cons_succ]
            refine T_enterR (get_op rfl) (by rfl) (by rfl) _ _ (fun x : Option Addr × Nat => .slice x.1 mm x.2) (fun x y h => by cases x; cases y; simp at h; simp [h]) (fun _ => by go_simp) (fun x V => V.ownsRow 0 3 1 (.slice x.1 mm x.2) mm OV) (fun x w w' h hk => hk.owns h (fun _ _ => id)) (fun V hb hf => HO1.out V hb) ?_
            intro x4
            simp only [Act.put, List.setIfInBounds_toArray, List.set_cons_zero, List.set_cons_succ]
            refine T_enterR (get_op rfl) (by rfl) (by rfl) _ _ (fun x : Option Addr × Nat => .slice x.1 mm x.2) (fun x y h => by cases x; cases y; simp at h; simp [h]) (fun _ => by go_simp) (fun x V => V.ownsRow 0 3 1 (.slice x4.1 mm x4.2) mm OV ∧ V.ownsRow 0 3 1 (.slice x.1 mm x.2) mm OV) (fun x w w' h hk => ⟨hk.owns h.1 (fun _ _ => id), hk.owns h.2 (fun _ _ => id)⟩) (fun V hb hf => HO2.out V _ _ hb hf) ?_
            intro x6
            simp only [Act.put, List.setIfInBounds_toArray, List.set_cons_zero, List.set_cons_succ]
            refine T_enter (get_op rfl) (by rfl) (by rfl) _ _ (.bool true) (fun _ => by go_simp) (fun V => True) (fun _ _ h _ => h) (fun V hb hf => HSM.out V _ _ _ _ hb hf.1 hf.2) ?_
            simp only [Act.put, List.setIfInBounds_toArray, List.set_cons_zero, List.set_cons_succ]
            refine T_value (get_op rfl) (by rfl) (by rfl) (.bool false) (fun _ _ => by go_simp) ?_
            simp only [Act.put, List.setIfInBounds_toArray, List.set_cons_zero, List.set_cons_succ]
            refine T_value (get_op rfl) (by rfl) (by rfl) (.bool false) (fun _ _ => by go_simp) ?_
            simp only [Act.put, List.setIfInBounds_toArray, List.set_cons_zero, List.set_cons_succ]
            refine T_nil ?_
            intro w30 k30 _
            simp only [List.drop_succ_cons, List.drop_zero]
            have KT : Hid (Keeps (fun _ => False) wt w30) := Lib.hid k30
            clear k30 HO1 HO2 HSM HTL STL
            have HII := Lib.hid (And.intro hil (And.intro hi6 (And.intro hi hi60)))
            clear hand hil hi6 hi hi60
            go_wp2_with fail
            go_loopw [26] (fun kv wr => ∃ kk : Int, -1 ≤ kk ∧ kk ≤ (n : Int) + 1 ∧ kv = .int .i64 kk ∧ Hid (Keeps (fun _ => False) wt wr)) (fun kv _ => ((n : Int) + 1 - intOf kv).toNat)
            case atStart => exact ⟨-1, by omega, by omega, rfl, KT⟩
            case round =>
              obtain ⟨kk, hk1, hk2, rfl, KI⟩ := hrel
              have hn64 : n ≤ 64 := HNN.out.2.2
              have hr12 : wr.cell? ⟨bw, 2, none⟩ = some (.slice (some ⟨g0, 0, none⟩) n c8) := (HRR.out.1.keeps KI.out id).cell 2
              by_cases hkn : kk ≤ (n : Int)
              · have hpe := peer_any wr g b s1 kk (TT.out.later KI.out)
                have HKI : Hid (-1 ≤ kk ∧ kk ≤ (n : Int)) := Lib.hid ⟨hk1, hkn⟩
                by_cases hin : 0 ≤ kk ∧ kk < (n : Int)
                · obtain ⟨q, rfl⟩ := Int.eq_ofNat_of_zero_le hin.1
                  rw [show Sc.has s1 (q : Int) = true from decide_eq_true (by rw [HNN.out.1]; exact hin)] at hpe
                  have hq : s1.ps[q]? = some (Sc.get s1 (q : Int)) := by
                    have := HNN.out.1
                    rw [Sc.get_D (by omega), List.getD_eq_getElem?_getD, List.getElem?_eq_getElem (by omega)]
                    rfl
                  have haw : ∀ V, Keeps (fun _ => False) wr V → Calls Try.prog 20 #[.pointer (some ⟨g, 0, none⟩), .int .i64 (q : Int)] V fun e w' => e = .returned (.bool (decide (0 < (Sc.get s1 (q : Int)).2))) ∧ Keeps (fun _ => False) V w' := fun V hV => taway_any V g b s1 _ ((TT.out.later KI.out).later hV)
                  obtain ⟨p, hp⟩ : ∃ p, Sc.get s1 (q : Int) = p := ⟨_, rfl⟩
                  rw [hp] at hpe hq haw
                  obtain ⟨x, y⟩ := p
                  obtain ⟨cx, cy⟩ := cell_own2 (KI.out.owns HRR.out.2 (fun _ _ => id)) hq (by omega)
                  dsimp only at cx cy
                  obtain ⟨C, hC⟩ : ∃ C, pc (x, y) = C := ⟨_, rfl⟩
                  rw [hC] at hpe
                  have HPE := Lib.hid hpe
                  have SC : Hid ((Try.prog.info? 40).map (·.size) = some C.size) := Lib.hid (by rw [← hC]; exact size_Peer)
                  have SZC : Hid (ZP.size = C.size) := Lib.hid (by rw [← hC, ← HZP.out]; rfl)
                  have OC : Hid (C.all (·.oneCell') = true) := Lib.hid (by rw [← hC]; exact pc_one _)
                  have HCC := Lib.hid hC
                  have HAW0 := Lib.hid haw
                  have HCX := Lib.hid (And.intro cx cy)
                  have hd1 : ((q : Int) < (n : Int)) := hin.2
                  have hd1n : q < n := by omega
                  have hd2 : q ≤ n := by omega
                  clear hpe hC haw cx cy hq hp hin hk1 hk2 hkn
                  as_aux_lemma =>
                    go_wp2_with fail
                    refine HPE.out.mono ?_
                    rintro e v1 ⟨rfl, kv1⟩
                    obtain ⟨b27, hb27⟩ : ∃ x, v1.heap.size = x := ⟨_, rfl⟩
                    obtain ⟨V2, hV2⟩ : ∃ V, v1.alloc (.cells ZP 40) = V := ⟨_, rfl⟩
                    have rv2 : V2.heap[b27]? = some (.cells ZP 40 (0, 0)) := by rw [← hV2, ← hb27]; exact heap_alloc_new v1 _
                    have kv2 : Keeps (fun _ => False) v1 V2 := by rw [← hV2]; exact (Keeps.refl _ _).alloc _
                    obtain ⟨w35, hV3⟩ : ∃ V, V2.setRow b27 C = V := ⟨_, rfl⟩
                    have kv3 : Keeps (fun _ => False) v1 w35 := kv2.trans' (T := fun k => k = b27) (by rw [← hV3]; exact Keeps.setRow _ _) (fun i hi e => by omega)
                    have rv3 : Row w35 b27 40 [.int .i64 x, .int .i64 y] := by
                      have h : w35.heap[b27]? = some (.cells C 40 (0, 0)) := by rw [← hV3]; exact setRow_heap _ _ _ _ _ _ rv2
                      rw [← HCC.out] at h
                      exact h
                    have k35 := kv1.trans kv3
                    obtain ⟨aw, haw⟩ : ∃ a, decide (0 < (x, y).2) = a := ⟨_, rfl⟩
                    have HAW35 : Hid (∀ V, Later w35 V → Calls Try.prog 20 #[.pointer (some ⟨g, 0, none⟩), .int .i64 (q : Int)] V fun e w' => e = .returned (.bool aw) ∧ Later w35 w') := Lib.hid (fun V hV => (HAW0.out V (k35.trans hV.out)).mono fun e w' h => ⟨by rw [← haw]; exact h.1, ⟨hV.out.trans h.2⟩⟩)
                    have HX35 : Hid (∀ V, Later w35 V → V.cell? ⟨b27, 0, none⟩ = some (.int .i64 x)) := Lib.hid (fun V hV => (rv3.keeps hV.out id).cell 0)
                    have HY35 : Hid (∀ V, Later w35 V → V.cell? ⟨b27, 1, none⟩ = some (.int .i64 y)) := Lib.hid (fun V hV => (rv3.keeps hV.out id).cell 1)
                    have hcp : ∀ (a : Addr) (u : Value), wr.cell? a = some u → ∀ V, Later w35 V → V.cell? a = some u := fun a u h V hV => ((k35.trans hV.out).cell (World.block_lt_of_cell? wr _ h) id).trans h
                    have HL35 := Lib.hid (hcp _ _ hr12)
                    have HPX := Lib.hid (hcp _ _ HCX.out.1)
                    have HPY := Lib.hid (hcp _ _ HCX.out.2)
                    have hr35 : w35.cell? ⟨bw, 2, none⟩ = some (.slice (some ⟨g0, 0, none⟩) n c8) := HL35.out w35 ⟨Keeps.refl _ _⟩
                    have hawd : decide (y > 0) = aw := haw
                    have RV2 := Lib.hid rv2
                    have K35 := Lib.hid (KI.out.trans k35)
                    clear rv2 kv2 kv3 rv3 kv1 k35 hcp HPE HAW0 HCC haw
                    go_wp2_with (first
                      | (refine wpList_store_row (by rfl) 40 _ _ (by rfl) b27 C (by rfl) (by rfl) 40 ZP RV2.out SC.out SZC.out OC.out ?_; rw [hV3])
                      | fail)
                    refine wp_region_class (Later w35) (by kernel_rfl) (by kernel_rfl) (⟨(Keeps.refl _ _).drew⟩) ?_
                    refine class_value (by rfl) (.bool true) (fun V hV => by go_simp) ?_
                    simp only [Act.put, List.setIfInBounds_toArray, List.set_cons_zero, List.set_cons_succ]
                    refine class_value (by rfl) (.bool true) (fun V hV => by go_simp) ?_
                    simp only [Act.put, List.setIfInBounds_toArray, List.set_cons_zero, List.set_cons_succ]
                    refine class_value (by rfl) (.bool false) (fun V hV => by go_simp) ?_
                    simp only [Act.put, List.setIfInBounds_toArray, List.set_cons_zero, List.set_cons_succ]
                    refine class_value (by rfl) (.bool false) (fun V hV => by go_simp) ?_
                    simp only [Act.put, List.setIfInBounds_toArray, List.set_cons_zero, List.set_cons_succ]
                    refine class_value (by rfl) (.bool true) (fun V hV => by go_simp) ?_
                    simp only [Act.put, List.setIfInBounds_toArray, List.set_cons_zero, List.set_cons_succ]
                    refine class_value (by rfl) (.bool true) (fun V hV => by go_simp) ?_
                    simp only [Act.put, List.setIfInBounds_toArray, List.set_cons_zero, List.set_cons_succ]
                    refine class_value (by rfl) (.pointer (some ⟨b27, 0, none⟩)) (fun V hV => by go_simp) ?_
                    simp only [Act.put, List.setIfInBounds_toArray, List.set_cons_zero, List.set_cons_succ]
                    refine class_cell (by rfl) 3 (.tmp 179) (by rfl) ⟨b27, 0, none⟩ (by rfl) (.int .i64 x) _ (fun V hV => HX35.out V hV) Try.underlying3 rfl ?_
                    simp only [Act.put, List.setIfInBounds_toArray, List.set_cons_zero, List.set_cons_succ]
                    refine class_value (by rfl) (.pointer (some ⟨bw, 2, none⟩)) (fun V hV => by go_simp) ?_
                    simp only [Act.put, List.setIfInBounds_toArray, List.set_cons_zero, List.set_cons_succ]
                    refine class_cell (by rfl) 28 (.tmp 181) (by rfl) ⟨bw, 2, none⟩ (by rfl) (.slice (some ⟨g0, 0, none⟩) n c8) _ (fun V hV => HL35.out V hV) Try.underlying28 rfl ?_
                    simp only [Act.put, List.setIfInBounds_toArray, List.set_cons_zero, List.set_cons_succ]
                    refine class_value (by rfl) (.int .i64 (q : Int)) (fun V hV => by go_simp) ?_
                    simp only [Act.put, List.setIfInBounds_toArray, List.set_cons_zero, List.set_cons_succ]
                    refine class_value (by rfl) (.pointer (some ⟨g0, q * 2, none⟩)) (fun V hV => by go_simp) ?_
                    simp only [Act.put, List.setIfInBounds_toArray, List.set_cons_zero, List.set_cons_succ]
                    refine class_value (by rfl) (.pointer (some ⟨g0, q * 2, none⟩)) (fun V hV => by go_simp) ?_
                    simp only [Act.put, List.setIfInBounds_toArray, List.set_cons_zero, List.set_cons_succ]
                    refine class_cell (by rfl) 3 (.tmp 185) (by rfl) ⟨g0, q * 2, none⟩ (by rfl) (.int .i64 x) _ (fun V hV => HPX.out V hV) Try.underlying3 rfl ?_
                    simp only [Act.put, List.setIfInBounds_toArray, List.set_cons_zero, List.set_cons_succ]
                    refine class_value (by rfl) (.bool false) (fun V hV => by go_simp) ?_
                    simp only [Act.put, List.setIfInBounds_toArray, List.set_cons_zero, List.set_cons_succ]
                    refine class_value (by rfl) (.bool false) (fun V hV => by go_simp) ?_
                    simp only [Act.put, List.setIfInBounds_toArray, List.set_cons_zero, List.set_cons_succ]
                    refine class_value (by rfl) (.pointer (some ⟨b27, 1, none⟩)) (fun V hV => by go_simp) ?_
                    simp only [Act.put, List.setIfInBounds_toArray, List.set_cons_zero, List.set_cons_succ]
                    refine class_cell (by rfl) 3 (.tmp 189) (by rfl) ⟨b27, 1, none⟩ (by rfl) (.int .i64 y) _ (fun V hV => HY35.out V hV) Try.underlying3 rfl ?_
                    simp only [Act.put, List.setIfInBounds_toArray, List.set_cons_zero, List.set_cons_succ]
                    refine class_value (by rfl) (.pointer (some ⟨bw, 2, none⟩)) (fun V hV => by go_simp) ?_
                    simp only [Act.put, List.setIfInBounds_toArray, List.set_cons_zero, List.set_cons_succ]
                    refine class_cell (by rfl) 28 (.tmp 191) (by rfl) ⟨bw, 2, none⟩ (by rfl) (.slice (some ⟨g0, 0, none⟩) n c8) _ (fun V hV => HL35.out V hV) Try.underlying28 rfl ?_
                    simp only [Act.put, List.setIfInBounds_toArray, List.set_cons_zero, List.set_cons_succ]
                    refine class_value (by rfl) (.int .i64 (q : Int)) (fun V hV => by go_simp) ?_
                    simp only [Act.put, List.setIfInBounds_toArray, List.set_cons_zero, List.set_cons_succ]
                    refine class_value (by rfl) (.pointer (some ⟨g0, q * 2, none⟩)) (fun V hV => by go_simp) ?_
                    simp only [Act.put, List.setIfInBounds_toArray, List.set_cons_zero, List.set_cons_succ]
                    refine class_value (by rfl) (.pointer (some ⟨g0, q * 2 + 1, none⟩)) (fun V hV => by go_simp) ?_
                    simp only [Act.put, List.setIfInBounds_toArray, List.set_cons_zero, List.set_cons_succ]
                    refine class_cell (by rfl) 3 (.tmp 195) (by rfl) ⟨g0, q * 2 + 1, none⟩ (by rfl) (.int .i64 y) _ (fun V hV => HPY.out V hV) Try.underlying3 rfl ?_
                    simp only [Act.put, List.setIfInBounds_toArray, List.set_cons_zero, List.set_cons_succ]
                    refine class_value (by rfl) (.bool false) (fun V hV => by go_simp) ?_
                    simp only [Act.put, List.setIfInBounds_toArray, List.set_cons_zero, List.set_cons_succ]
                    refine class_value (by rfl) (.bool false) (fun V hV => by go_simp) ?_
                    simp only [Act.put, List.setIfInBounds_toArray, List.set_cons_zero, List.set_cons_succ]
                    refine class_value (by rfl) (.bool false) (fun V hV => by go_simp) ?_
                    simp only [Act.put, List.setIfInBounds_toArray, List.set_cons_zero, List.set_cons_succ]
                    refine class_value (by rfl) (.pointer (some ⟨g, 0, none⟩)) (fun V hV => by go_simp) ?_
                    simp only [Act.put, List.setIfInBounds_toArray, List.set_cons_zero, List.set_cons_succ]
                    refine class_value (by rfl) (.int .i64 (q : Int)) (fun V hV => by go_simp) ?_
                    simp only [Act.put, List.setIfInBounds_toArray, List.set_cons_zero, List.set_cons_succ]
                    refine class_callW (by rfl) _ _ (.bool aw) (fun _ => by go_simp) (fun V hV => HAW35.out V hV) ?_
                    simp only [Act.put, List.setIfInBounds_toArray, List.set_cons_zero, List.set_cons_succ]
                    refine class_value (by rfl) (.pointer (some ⟨b27, 1, none⟩)) (fun V hV => by go_simp) ?_
                    simp only [Act.put, List.setIfInBounds_toArray, List.set_cons_zero, List.set_cons_succ]
                    refine class_cell (by rfl) 3 (.tmp 203) (by rfl) ⟨b27, 1, none⟩ (by rfl) (.int .i64 y) _ (fun V hV => HY35.out V hV) Try.underlying3 rfl ?_
                    simp only [Act.put, List.setIfInBounds_toArray, List.set_cons_zero, List.set_cons_succ]
                    refine class_value (by rfl) (.bool aw) (fun V hV => by go_simp) ?_
                    simp only [Act.put, List.setIfInBounds_toArray, List.set_cons_zero, List.set_cons_succ]
                    refine class_value (by rfl) (.bool false) (fun V hV => by go_simp) ?_
                    simp only [Act.put, List.setIfInBounds_toArray, List.set_cons_zero, List.set_cons_succ]
                    refine class_value (by rfl) (.bool false) (fun V hV => by go_simp) ?_
                    simp only [Act.put, List.setIfInBounds_toArray, List.set_cons_zero, List.set_cons_succ]
                    refine class_value (by rfl) (.bool false) (fun V hV => by go_simp) ?_
                    simp only [Act.put, List.setIfInBounds_toArray, List.set_cons_zero, List.set_cons_succ]
                    refine class_value (by rfl) (.bool false) (fun V hV => by go_simp) ?_
                    simp only [Act.put, List.setIfInBounds_toArray, List.set_cons_zero, List.set_cons_succ]
                    refine class_value (by rfl) (.bool false) (fun V hV => by go_simp) ?_
                    simp only [Act.put, List.setIfInBounds_toArray, List.set_cons_zero, List.set_cons_succ]
                    refine class_value (by rfl) (.bool true) (fun V hV => by go_simp) ?_
                    simp only [Act.put, List.setIfInBounds_toArray, List.set_cons_zero, List.set_cons_succ]
                    refine class_value (by rfl) (.bool false) (fun V hV => by go_simp) ?_
                    simp only [Act.put, List.setIfInBounds_toArray, List.set_cons_zero, List.set_cons_succ]
                    refine class_value (by rfl) (.bool false) (fun V hV => by go_simp) ?_
                    simp only [Act.put, List.setIfInBounds_toArray, List.set_cons_zero, List.set_cons_succ]
                    go_big_quiet_skip
                    go_big_quiet_skip
                    go_big_quiet_skip
                    refine class_value (by rfl) (.bool false) (fun V hV => by go_simp) ?_
                    simp only [Act.put, List.setIfInBounds_toArray, List.set_cons_zero, List.set_cons_succ]
                    refine class_value (by rfl) (.bool false) (fun V hV => by go_simp) ?_
                    simp only [Act.put, List.setIfInBounds_toArray, List.set_cons_zero, List.set_cons_succ]
                    refine wpQuiet_nil ?_
                    intro w37 k37
                    have K37 := Lib.hid (K35.out.trans k37.out)
                    clear k37
                    go_wp2
                    go_roundw
                    case rel => exact ⟨(q : Int) + 1, by omega, by omega, by go_num, K37⟩
                    case measure => first | (simp [intOf]; done) | (simp [intOf]; omega)
                · rw [show Sc.has s1 kk = false from decide_eq_false (by rw [HNN.out.1]; exact hin), show Sc.get s1 kk = (0, 0) by unfold Sc.get; rw [if_neg (by rw [HNN.out.1]; exact hin)], HZP.out] at hpe
                  have HPE := Lib.hid hpe
                  have haw : ∀ V, Keeps (fun _ => False) wr V → Calls Try.prog 20 #[.pointer (some ⟨g, 0, none⟩), .int .i64 kk] V fun e w' => e = .returned (.bool false) ∧ Keeps (fun _ => False) V w' := fun V hV => by
                    have := taway_any V g b s1 kk ((TT.out.later KI.out).later hV)
                    rwa [show Sc.get s1 kk = (0, 0) by unfold Sc.get; rw [if_neg (by rw [HNN.out.1]; exact hin)]] at this
                  have HAW0 := Lib.hid haw
                  have hd0 : kk ≤ (n : Int) := hkn
                  have HKB : Hid (-1 ≤ kk ∧ kk ≤ (n : Int)) := Lib.hid ⟨hk1, hkn⟩
                  rcases (show (kk = -1) ∨ (kk = (n : Int)) by omega) with hke | hke
                  · subst hke
                    clear hpe haw hin hk1 hk2 hkn
                    go_wp2_with fail
                    refine HPE.out.mono ?_
                    rintro e v1 ⟨rfl, kv1⟩
                    obtain ⟨b27, hb27⟩ : ∃ x, v1.heap.size = x := ⟨_, rfl⟩
                    obtain ⟨V2, hV2⟩ : ∃ V, v1.alloc (.cells ZP 40) = V := ⟨_, rfl⟩
                    have rv2 : V2.heap[b27]? = some (.cells ZP 40 (0, 0)) := by rw [← hV2, ← hb27]; exact heap_alloc_new v1 _
                    have kv2 : Keeps (fun _ => False) v1 V2 := by rw [← hV2]; exact (Keeps.refl _ _).alloc _
                    obtain ⟨w35, hV3⟩ : ∃ V, V2.setRow b27 ZP = V := ⟨_, rfl⟩
                    have kv3 : Keeps (fun _ => False) v1 w35 := kv2.trans' (T := fun k => k = b27) (by rw [← hV3]; exact Keeps.setRow _ _) (fun i hi e => by omega)
                    have k35 := kv1.trans kv3
                    have HAW35 := Lib.hid (fun (V : World) (hV : Later w35 V) => (HAW0.out V (k35.trans hV.out)).mono (fun e w' h => (⟨h.1, ⟨hV.out.trans h.2⟩⟩ : e = .returned (.bool false) ∧ Later w35 w')))
                    have hr35 : w35.cell? ⟨bw, 2, none⟩ = some (.slice (some ⟨g0, 0, none⟩) n c8) := (k35.cell (World.block_lt_of_cell? wr _ hr12) id).trans hr12
                    have RV2 := Lib.hid rv2
                    have K35 := Lib.hid (KI.out.trans k35)
                    clear rv2 kv2 kv3 kv1 k35 HPE HAW0
                    go_wp2_with (first
                      | (refine wpList_store_row (by rfl) 40 _ _ (by rfl) b27 ZP (by rfl) (by rfl) 40 ZP RV2.out SZP.out rfl OZP.out ?_; rw [hV3])
                      | fail)
                    refine wp_region_class (Later w35) (by kernel_rfl) (by kernel_rfl) (⟨(Keeps.refl _ _).drew⟩) ?_
                    refine class_value (by rfl) (.bool false) (fun V hV => by go_simp) ?_
                    simp only [Act.put, List.setIfInBounds_toArray, List.set_cons_zero, List.set_cons_succ]
                    refine class_value (by rfl) (.bool false) (fun V hV => by go_simp) ?_
                    simp only [Act.put, List.setIfInBounds_toArray, List.set_cons_zero, List.set_cons_succ]
                    refine class_value (by rfl) (.bool false) (fun V hV => by go_simp) ?_
                    simp only [Act.put, List.setIfInBounds_toArray, List.set_cons_zero, List.set_cons_succ]
                    refine class_value (by rfl) (.bool false) (fun V hV => by go_simp) ?_
                    simp only [Act.put, List.setIfInBounds_toArray, List.set_cons_zero, List.set_cons_succ]
                    refine class_value (by rfl) (.bool false) (fun V hV => by go_simp) ?_
                    simp only [Act.put, List.setIfInBounds_toArray, List.set_cons_zero, List.set_cons_succ]
                    refine class_value (by rfl) (.bool false) (fun V hV => by go_simp) ?_
                    simp only [Act.put, List.setIfInBounds_toArray, List.set_cons_zero, List.set_cons_succ]
                    go_big_quiet_skip
                    go_big_quiet_skip
                    go_big_quiet_skip
                    go_big_quiet_skip
                    go_big_quiet_skip
                    go_big_quiet_skip
                    go_big_quiet_skip
                    go_big_quiet_skip
                    go_big_quiet_skip
                    go_big_quiet_skip
                    go_big_quiet_skip
                    go_big_quiet_skip
                    go_big_quiet_skip
                    go_big_quiet_skip
                    go_big_quiet_skip
                    go_big_quiet_skip
                    go_big_quiet_skip
                    go_big_quiet_skip
                    go_big_quiet_skip
                    go_big_quiet_skip
                    go_big_quiet_skip
                    go_big_quiet_skip
                    go_big_quiet_skip
                    go_big_quiet_skip
                    go_big_quiet_skip
                    go_big_quiet_skip
                    go_big_quiet_skip
                    go_big_quiet_skip
                    go_big_quiet_skip
                    refine class_value (by rfl) (.bool false) (fun V hV => by go_simp) ?_
                    simp only [Act.put, List.setIfInBounds_toArray, List.set_cons_zero, List.set_cons_succ]
                    refine class_value (by rfl) (.bool false) (fun V hV => by go_simp) ?_
                    simp only [Act.put, List.setIfInBounds_toArray, List.set_cons_zero, List.set_cons_succ]
                    refine class_value (by rfl) (.bool false) (fun V hV => by go_simp) ?_
                    simp only [Act.put, List.setIfInBounds_toArray, List.set_cons_zero, List.set_cons_succ]
                    refine class_value (by rfl) (.bool false) (fun V hV => by go_simp) ?_
                    simp only [Act.put, List.setIfInBounds_toArray, List.set_cons_zero, List.set_cons_succ]
                    refine class_value (by rfl) (.bool true) (fun V hV => by go_simp) ?_
                    simp only [Act.put, List.setIfInBounds_toArray, List.set_cons_zero, List.set_cons_succ]
                    refine class_value (by rfl) (.bool true) (fun V hV => by go_simp) ?_
                    simp only [Act.put, List.setIfInBounds_toArray, List.set_cons_zero, List.set_cons_succ]
                    refine class_value (by rfl) (.pointer (some ⟨g, 0, none⟩)) (fun V hV => by go_simp) ?_
                    simp only [Act.put, List.setIfInBounds_toArray, List.set_cons_zero, List.set_cons_succ]
                    refine class_value (by rfl) (.int .i64 (-1)) (fun V hV => by go_simp) ?_
                    simp only [Act.put, List.setIfInBounds_toArray, List.set_cons_zero, List.set_cons_succ]
                    refine class_callW (by rfl) _ _ (.bool false) (fun _ => by go_simp) (fun V hV => HAW35.out V hV) ?_
                    simp only [Act.put, List.setIfInBounds_toArray, List.set_cons_zero, List.set_cons_succ]
                    refine class_value (by rfl) (.bool false) (fun V hV => by go_simp) ?_
                    simp only [Act.put, List.setIfInBounds_toArray, List.set_cons_zero, List.set_cons_succ]
                    refine class_value (by rfl) (.bool false) (fun V hV => by go_simp) ?_
                    simp only [Act.put, List.setIfInBounds_toArray, List.set_cons_zero, List.set_cons_succ]
                    refine wpQuiet_nil ?_
                    intro w37 k37
                    have K37 := Lib.hid (K35.out.trans k37.out)
                    clear k37
                    go_wp2
                    go_roundw
                    case rel => exact ⟨(-1) + 1, by omega, by omega, by go_num, K37⟩
                    case measure => first | (simp [intOf]; done) | (simp [intOf]; omega)
                  · subst hke
                    clear hpe haw hin hk1 hk2 hkn
                    go_wp2_with fail
                    refine HPE.out.mono ?_
                    rintro e v1 ⟨rfl, kv1⟩
                    obtain ⟨b27, hb27⟩ : ∃ x, v1.heap.size = x := ⟨_, rfl⟩
                    obtain ⟨V2, hV2⟩ : ∃ V, v1.alloc (.cells ZP 40) = V := ⟨_, rfl⟩
                    have rv2 : V2.heap[b27]? = some (.cells ZP 40 (0, 0)) := by rw [← hV2, ← hb27]; exact heap_alloc_new v1 _
                    have kv2 : Keeps (fun _ => False) v1 V2 := by rw [← hV2]; exact (Keeps.refl _ _).alloc _
                    obtain ⟨w35, hV3⟩ : ∃ V, V2.setRow b27 ZP = V := ⟨_, rfl⟩
                    have kv3 : Keeps (fun _ => False) v1 w35 := kv2.trans' (T := fun k => k = b27) (by rw [← hV3]; exact Keeps.setRow _ _) (fun i hi e => by omega)
                    have k35 := kv1.trans kv3
                    have HAW35 := Lib.hid (fun (V : World) (hV : Later w35 V) => (HAW0.out V (k35.trans hV.out)).mono (fun e w' h => (⟨h.1, ⟨hV.out.trans h.2⟩⟩ : e = .returned (.bool false) ∧ Later w35 w')))
                    have hr35 : w35.cell? ⟨bw, 2, none⟩ = some (.slice (some ⟨g0, 0, none⟩) n c8) := (k35.cell (World.block_lt_of_cell? wr _ hr12) id).trans hr12
                    have RV2 := Lib.hid rv2
                    have K35 := Lib.hid (KI.out.trans k35)
                    clear rv2 kv2 kv3 kv1 k35 HPE HAW0
                    go_wp2_with (first
                      | (refine wpList_store_row (by rfl) 40 _ _ (by rfl) b27 ZP (by rfl) (by rfl) 40 ZP RV2.out SZP.out rfl OZP.out ?_; rw [hV3])
                      | fail)
                    refine wp_region_class (Later w35) (by kernel_rfl) (by kernel_rfl) (⟨(Keeps.refl _ _).drew⟩) ?_
                    refine class_value (by rfl) (.bool false) (fun V hV => by go_simp) ?_
                    simp only [Act.put, List.setIfInBounds_toArray, List.set_cons_zero, List.set_cons_succ]
                    refine class_value (by rfl) (.bool false) (fun V hV => by go_simp) ?_
                    simp only [Act.put, List.setIfInBounds_toArray, List.set_cons_zero, List.set_cons_succ]
                    refine class_value (by rfl) (.bool false) (fun V hV => by go_simp) ?_
                    simp only [Act.put, List.setIfInBounds_toArray, List.set_cons_zero, List.set_cons_succ]
                    refine class_value (by rfl) (.bool false) (fun V hV => by go_simp) ?_
                    simp only [Act.put, List.setIfInBounds_toArray, List.set_cons_zero, List.set_cons_succ]
                    refine class_value (by rfl) (.bool false) (fun V hV => by go_simp) ?_
                    simp only [Act.put, List.setIfInBounds_toArray, List.set_cons_zero, List.set_cons_succ]
                    refine class_value (by rfl) (.bool false) (fun V hV => by go_simp) ?_
                    simp only [Act.put, List.setIfInBounds_toArray, List.set_cons_zero, List.set_cons_succ]
                    go_big_quiet_skip
                    go_big_quiet_skip
                    go_big_quiet_skip
                    go_big_quiet_skip
                    go_big_quiet_skip
                    go_big_quiet_skip
                    go_big_quiet_skip
                    go_big_quiet_skip
                    go_big_quiet_skip
                    go_big_quiet_skip
                    go_big_quiet_skip
                    go_big_quiet_skip
                    go_big_quiet_skip
                    go_big_quiet_skip
                    go_big_quiet_skip
                    go_big_quiet_skip
                    go_big_quiet_skip
                    go_big_quiet_skip
                    go_big_quiet_skip
                    go_big_quiet_skip
                    go_big_quiet_skip
                    go_big_quiet_skip
                    go_big_quiet_skip
                    go_big_quiet_skip
                    go_big_quiet_skip
                    go_big_quiet_skip
                    go_big_quiet_skip
                    go_big_quiet_skip
                    go_big_quiet_skip
                    refine class_value (by rfl) (.bool false) (fun V hV => by go_simp) ?_
                    simp only [Act.put, List.setIfInBounds_toArray, List.set_cons_zero, List.set_cons_succ]
                    refine class_value (by rfl) (.bool false) (fun V hV => by go_simp) ?_
                    simp only [Act.put, List.setIfInBounds_toArray, List.set_cons_zero, List.set_cons_succ]
                    refine class_value (by rfl) (.bool false) (fun V hV => by go_simp) ?_
                    simp only [Act.put, List.setIfInBounds_toArray, List.set_cons_zero, List.set_cons_succ]
                    refine class_value (by rfl) (.bool false) (fun V hV => by go_simp) ?_
                    simp only [Act.put, List.setIfInBounds_toArray, List.set_cons_zero, List.set_cons_succ]
                    refine class_value (by rfl) (.bool true) (fun V hV => by go_simp) ?_
                    simp only [Act.put, List.setIfInBounds_toArray, List.set_cons_zero, List.set_cons_succ]
                    refine class_value (by rfl) (.bool true) (fun V hV => by go_simp) ?_
                    simp only [Act.put, List.setIfInBounds_toArray, List.set_cons_zero, List.set_cons_succ]
                    refine class_value (by rfl) (.pointer (some ⟨g, 0, none⟩)) (fun V hV => by go_simp) ?_
                    simp only [Act.put, List.setIfInBounds_toArray, List.set_cons_zero, List.set_cons_succ]
                    refine class_value (by rfl) (.int .i64 (n : Int)) (fun V hV => by go_simp) ?_
                    simp only [Act.put, List.setIfInBounds_toArray, List.set_cons_zero, List.set_cons_succ]
                    refine class_callW (by rfl) _ _ (.bool false) (fun _ => by go_simp) (fun V hV => HAW35.out V hV) ?_
                    simp only [Act.put, List.setIfInBounds_toArray, List.set_cons_zero, List.set_cons_succ]
                    refine class_value (by rfl) (.bool false) (fun V hV => by go_simp) ?_
                    simp only [Act.put, List.setIfInBounds_toArray, List.set_cons_zero, List.set_cons_succ]
                    refine class_value (by rfl) (.bool false) (fun V hV => by go_simp) ?_
                    simp only [Act.put, List.setIfInBounds_toArray, List.set_cons_zero, List.set_cons_succ]
                    refine wpQuiet_nil ?_
                    intro w37 k37
                    have K37 := Lib.hid (K35.out.trans k37.out)
                    clear k37
                    go_wp2
                    go_roundw
                    case rel => exact ⟨(n : Int) + 1, by omega, by omega, by go_num, K37⟩
                    case measure => first | (simp [intOf]; done) | (simp [intOf]; omega)
              · obtain rfl : kk = (n : Int) + 1 := by omega
                have hd0 : ¬ (n : Int) + 1 ≤ (n : Int) := by omega
                clear hk1 hk2 hkn
                go_wp2
                go_roundw
                case rel => exact ⟨i + 1, s1, some ⟨g0, 0, none⟩, c8, by have := HII.out; omega, by have := HII.out; omega, by go_num, Lib.hid (TT.out.later KI.out), Lib.hid ((show RfAt wt bw s1 (some ⟨g0, 0, none⟩) c8 from ⟨by rw [HNN.out.1]; exact HRR.out.1, by rw [HNN.out.1]; exact HRR.out.2⟩).later KI.out), Lib.hid (KW.out.trans KI.out)⟩
                case measure => first | (simp [intOf]; done) | (simp [intOf]; omega)
        · subst hr
          as_aux_lemma =>
            go_wp2_with (first
              | (refine wpList_load_any (by rfl) 34 (.tmp 76) (by rfl) (ad.add (i * 4)) (by rfl) [.int .i64 kd, .int .i64 qi, .int .i64 qn, .int .i64 ql] _ HXC.out Try.underlying34 rfl size_act ?_)
              | (refine wpList_store_row (by rfl) 34 (.tmp 15) (.tmp 77) (by rfl) b15 RX (by rfl) (by rw [← HRX.out]; rfl) 34 ZA R5.out RXS.out (NZA.out.trans RXN.out.symm) RXO.out ?_; rw [hW6])
              | (refine wpList_made (by rfl) 40 [(0, .tmp 120), (1, .tmp 122)] (by rfl) [(0, .int .i64 qn), (1, .int .i64 ql)] (by rfl) (.agg PC) HBP.out ?_)
              | fail)
            have hbl := set_tab W6 g b s qi (qn, ql) T6.out
            obtain ⟨s1, hs1⟩ : ∃ x, Sc.set s qi (qn, ql) = x := ⟨_, rfl⟩
            obtain ⟨E, hE0⟩ : ∃ x, Sc.setE s qi (qn, ql) = x := ⟨_, rfl⟩
            have hE := Sc.set_lim s qi (qn, ql)
            rw [hs1] at hbl hE
            rw [hE0, HPC.out] at hbl
            refine hbl.mono ?_
            rintro e w7 ⟨rfl, t7, k7⟩
            have f7 := F6.out.turn T6.out.map k7
            obtain ⟨TC, hTC⟩ : ∃ C, tcs s.limit s.hold A1 s.ps.length c1 = C := ⟨_, rfl⟩
            have STC : Hid ((Try.prog.info? 30).map (·.size) = some TC.size) := Lib.hid (by rw [← hTC]; exact size_T)
            have RB7 : Hid (w7.heap[bw]? = some (.cells TC 30 (0, 0))) := Lib.hid (by rw [← hTC]; exact f7.row)
            have T7 := Lib.hid t7
            have F7 := Lib.hid f7
            have K7 : Hid (Keeps (fun _ => False) W w7) := Lib.hid (K6.out.trans' k7 (fun j hj e => by have := HGB.out; omega))
            have hra := R11.out.keeps k7 (fun e => T6.out.map.apart R11.out e.symm)
            have ea1 : w7.cell? ⟨b15, 1, none⟩ = some (.int .i64 qi) := hra.cell 1
            have ea2 : w7.cell? ⟨b15, 2, none⟩ = some (.int .i64 qn) := hra.cell 2
            have ea3 : w7.cell? ⟨b15, 3, none⟩ = some (.int .i64 ql) := hra.cell 3
            have hrb := rset_any A1 s.ps.length c1 s qi (qn, ql) w7 T6.out.ok rfl f7.own
            rw [hs1, hE0, hTC, HPC.out] at hrb
            have HRB : Hid (Calls Try.prog 13 #[.agg TC, .int .i64 qi, .agg PC] w7 fun e w' => ∃ A' c', e = .returned (.tuple #[.agg (tcs s1.limit s1.hold A' s1.ps.length c'), .int .i64 E]) ∧ w'.ownsRow 0 42 2 (.slice A' s1.ps.length c') s1.ps.length (pcells s1.ps) ∧ Keeps (fun _ => False) w7 w') := Lib.hid (by rw [hE.1, hE.2.1, hE.2.2]; exact hrb)
            have HTC := Lib.hid hTC
            have hRR : (E == E) = true := by simp
            clear hbl hrb hTC f7 t7 k7 hra hE hE0 hs1
            go_wp2_with (first
              | (refine wpList_load_row (by rfl) 30 (.tmp 12) (by rfl) bw (by rfl) 30 TC (0, 0) _ RB7.out Try.underlying30 rfl STC.out ?_)
              | (refine wpList_made (by rfl) 42 [(0, .tmp 130), (1, .tmp 132)] (by rfl) [(0, .int .i64 qn), (1, .int .i64 ql)] (by rfl) (.agg PC) HBQ.out ?_)
              | fail)
            refine HRB.out.mono ?_
            rintro e w8 ⟨A8, c8, rfl, o8, k8⟩
            clear HRB
            obtain ⟨DC, hDC⟩ : ∃ C, tcs s1.limit s1.hold A8 s1.ps.length c8 = C := ⟨_, rfl⟩
            have SDC : Hid ((Try.prog.info? 30).map (·.size) = some DC.size) := Lib.hid (by rw [← hDC]; exact size_T)
            have NDC : Hid (ZT.size = DC.size) := Lib.hid (by rw [NZT.out, ← hDC]; rfl)
            have ODC : Hid (DC.all (·.oneCell') = true) := Lib.hid (by rw [← hDC]; exact tcs_one _ _ _ _ _)
            obtain ⟨b18, hb18⟩ : ∃ x, w8.heap.size = x := ⟨_, rfl⟩
            obtain ⟨w9, hw9⟩ : ∃ V, w8.alloc (.cells ZT 30) = V := ⟨_, rfl⟩
            have k9 : Keeps (fun _ => False) w8 w9 := by rw [← hw9]; exact (Keeps.refl _ _).alloc _
            have r9 : w9.heap[b18]? = some (.cells ZT 30 (0, 0)) := by rw [← hw9, ← hb18]; exact heap_alloc_new w8 _
            obtain ⟨w10, hw10⟩ : ∃ V, w9.setRow b18 DC = V := ⟨_, rfl⟩
            have k10 : Keeps (fun _ => False) w8 w10 := k9.trans' (T := fun k => k = b18) (by rw [← hw10]; exact Keeps.setRow _ _) (fun j hj e => by omega)
            have r10 : w10.heap[b18]? = some (.cells DC 30 (0, 0)) := by rw [← hw10]; exact setRow_heap _ _ _ _ _ _ r9
            have f10 := F7.out.later (k8.trans k10)
            have hb10 : w10.heap[bw]? = some (.cells TC 30 (0, 0)) := by rw [← HTC.out]; exact f10.row
            have hput := f10.put (s' := s1) (A' := A8) (c' := c8) (k10.owns o8 (fun _ _ => id))
            rw [hDC] at hput
            obtain ⟨wt, hwt⟩ : ∃ V, w10.setRow bw DC = V := ⟨_, rfl⟩
            rw [hwt] at hput
            have TT : Hid (TabAt wt g b s1) := Lib.hid (((T7.out.later (k8.trans k10)).aside (A := none) (c := 0) (.inr ⟨_, f10.row⟩) hput.2))
            have RR : Hid (RfAt wt bw s1 A8 c8) := Lib.hid hput.1
            have KW : Hid (Keeps (fun _ => False) W wt) := Lib.hid ((K7.out.trans (k8.trans k10)).trans' hput.2 (fun j hj e => by have := HBW.out; omega))
            have R9 := Lib.hid r9
            have R10 := Lib.hid r10
            have RB10 := Lib.hid hb10
            have NBC : Hid (TC.size = DC.size) := Lib.hid (by rw [← HTC.out, ← hDC]; rfl)
            rw [hDC]
            clear o8 k8 k9 r9 k10 r10 f10 hb10 hput hDC F7 T7 K7
            go_wp2_with (first
              | (refine wpList_store_row (by rfl) 30 _ _ (by rfl) b18 DC (by rfl) (by rfl) 30 ZT R9.out SDC.out NDC.out ODC.out ?_; rw [hw10])
              | (refine wpList_load_row (by rfl) 30 _ (by rfl) b18 (by rfl) 30 DC (0, 0) _ R10.out Try.underlying30 rfl SDC.out ?_)
              | (refine wpList_store_row (by rfl) 30 _ _ (by rfl) bw DC (by rfl) (by rfl) 30 TC RB10.out SDC.out NBC.out ODC.out ?_; rw [hwt])
              | fail)
            obtain ⟨n, hn⟩ : ∃ n, s1.ps.length = n := ⟨_, rfl⟩
            have hnn := TT.out.ok.many
            rw [hn] at hnn
            have hro0 := RR.out.own
            rw [hn] at hro0
            obtain ⟨g0, hg0⟩ := own_some13 hro0 (by omega)
            subst hg0
            obtain ⟨TL, hTL⟩ : ∃ L : List Value, [.int .i64 s1.limit, .int .i64 s1.hold, .slice (some ⟨g0, 0, none⟩) n c8] = L := ⟨_, rfl⟩
            have hrr := RR.out.row
            have hro := RR.out.own
            rw [hn] at hrr hro
            have HTL : Hid (∀ V, Keeps (fun _ => False) wt V → V.rangeAt bw 0 TL) := Lib.hid (fun V hV => by rw [← hTL]; exact rangeAt_row (hrr.keeps hV id))
            have STL : Hid ((Try.prog.info? 30).map (·.size) = some TL.length) := Lib.hid (by rw [← hTL]; exact size_T)
            obtain ⟨mm, hmm⟩ : ∃ m, (Sc.opens s1.ps n).length = m := ⟨_, rfl⟩
            obtain ⟨OV, hOV⟩ : ∃ v, nvs (Sc.opens s1.ps n) = v := ⟨_, rfl⟩
            have hm64 : mm ≤ 64 := by rw [← hmm]; have := Sc.opens_le s1.ps n; omega
            have HO1 : Hid (∀ V, Keeps (fun _ => False) wt V → Calls Try.prog 17 #[.pointer (some ⟨g, 0, none⟩)] V fun e w' => ∃ x : Option Addr × Nat, e = .returned (.slice x.1 mm x.2) ∧ Keeps (fun _ => False) wt w' ∧ w'.ownsRow 0 3 1 (.slice x.1 mm x.2) mm OV) := Lib.hid (fun V hV => by
              refine (open_tab V g b s1 (TT.out.later hV)).mono ?_
              rintro e w' ⟨A', m', c', rfl, hm', ho, hk⟩
              rw [hn, hmm] at hm'
              subst hm'
              rw [hn, hOV] at ho
              exact ⟨(A', c'), rfl, hV.trans hk, own_base ho (Nat.zero_le _)⟩)
            have HO2 : Hid (∀ V (A2 : Option Addr) (c2 : Nat), Keeps (fun _ => False) wt V → V.ownsRow 0 3 1 (.slice A2 mm c2) mm OV → Calls Try.prog 18 #[.agg TL.toArray] V fun e w' => ∃ x : Option Addr × Nat, e = .returned (.slice x.1 mm x.2) ∧ Keeps (fun _ => False) wt w' ∧ w'.ownsRow 0 3 1 (.slice A2 mm c2) mm OV ∧ w'.ownsRow 0 3 1 (.slice x.1 mm x.2) mm OV) := Lib.hid (fun V A2 c2 hV h2 => by
              rw [← hTL]
              refine (ropen_any (some ⟨g0, 0, none⟩) n c8 s1 V TT.out.ok hn (hV.owns hro (fun _ _ => id))).mono ?_
              rintro e w' ⟨A', m', c', rfl, hm', ho, hk⟩
              rw [hmm] at hm'
              subst hm'
              rw [hOV] at ho
              exact ⟨(A', c'), rfl, hV.trans hk, hk.owns h2 (fun _ _ => id), own_base ho (Nat.zero_le _)⟩)
            have HSM : Hid (∀ V (A2 : Option Addr) (c2 : Nat) (A3 : Option Addr) (c3 : Nat), Keeps (fun _ => False) wt V → V.ownsRow 0 3 1 (.slice A2 mm c2) mm OV → V.ownsRow 0 3 1 (.slice A3 mm c3) mm OV → Calls Try.prog 16 #[.slice A2 mm c2, .slice A3 mm c3] V fun e w' => e = .returned (.bool true) ∧ Keeps (fun _ => False) wt w' ∧ True) := Lib.hid (fun V A2 c2 A3 c3 hV h2 h3 => by
              rw [← hOV] at h2 h3
              refine (same_eq A2 A3 mm c2 c3 0 0 _ V h2 h3 hm64).mono ?_
              rintro e w' ⟨h4, h5⟩
              exact ⟨h4, hV.trans h5, trivial⟩)
            have HNN := Lib.hid (And.intro hn hnn)
            have HRR := Lib.hid (And.intro hrr hro)
            clear hn hnn hTL hrr hro hro0 hmm hOV hm64 RR
            go_wp2_with fail
            refine wp_region_stores 10 [4, 6, 7] [0, 1, 2, 3, 5, 4, 6, 7, 8, 9] (fun V => Keeps (fun _ => False) wt V) (fun V => True) (by kernel_rfl) (by kernel_rfl) (fun _ _ h k => h.trans k) (fun _ _ h _ => h) (((Keeps.refl _ _).drew)) (trivial) ?_
            refine T_quiet (get_op rfl) (by rfl) (by rfl) (by rfl) ?_
            intro K hK
            go_big_quiet_op
            first | go_big_quiet_on | go_big_quiet_call ((intro _; rfl))
            refine T_value (get_op rfl) (by rfl) (by rfl) (.bool false) (fun _ _ => by go_simp) ?_
            simp only [Act.put, List.setIfInBounds_toArray, List.set_cons_zero, List.set_cons_succ]
            refine T_quiet (get_op rfl) (by rfl) (by rfl) (by rfl) ?_
            intro K hK
            go_big_quiet_op
            first | go_big_quiet_on | go_big_quiet_call ((intro _; rfl))
            refine T_quiet (get_op rfl) (by rfl) (by rfl) (by rfl) ?_
            intro K hK
            go_big_quiet_op
            first | go_big_quiet_on | go_big_quiet_call ((intro _; rfl))
            refine T_load (get_op rfl) (by rfl) (by rfl) 30 (.tmp 12) (by rfl) bw 0 (by rfl) TL _ (fun V hV => HTL.out V hV) Try.underlying30 rfl STL.out ?_
            simp only [Act.put, List.setIfInBounds_toArray, List.set_cons_zero, List.set_cons_succ]
            refine T_enterR (get_op rfl) (by rfl) (by rfl) _ _ (fun x : Option Addr × Nat => .slice x.1 mm x.2) (fun x y h => by cases x; cases y; simp at h; simp [h]) (fun _ => by go_simp) (fun x V => V.ownsRow 0 3 1 (.slice x.1 mm x.2) mm OV) (fun x w w' h hk => hk.owns h (fun _ _ => id)) (fun V hb hf => HO1.out V hb) ?_
            intro x4
            simp only [Act.put, List.setIfInBounds_toArray, List.set_cons_zero, List.set_cons_succ]
            refine T_enterR (get_op rfl) (by rfl) (by rfl) _ _ (fun x : Option Addr × Nat => .slice x.1 mm x.2) (fun x y h => by cases x; cases y; simp at h; simp [h]) (fun _ => by go_simp) (fun x V => V.ownsRow 0 3 1 (.slice x4.1 mm x4.2) mm OV ∧ V.ownsRow 0 3 1 (.slice x.1 mm x.2) mm OV) (fun x w w' h hk => ⟨hk.owns h.1 (fun _ _ => id), hk.owns h.2 (fun _ _ => id)⟩) (fun V hb hf => HO2.out V _ _ hb hf) ?_
            intro x6
            simp only [Act.put, List.setIfInBounds_toArray, List.set_cons_zero, List.set_cons_succ]
            refine T_enter (get_op rfl) (by rfl) (by rfl) _ _ (.bool true) (fun _ => by go_simp) (fun V => True) (fun _ _ h _ => h) (fun V hb hf => HSM.out V _ _ _ _ hb hf.1 hf.2) ?_
            simp only [Act.put, List.setIfInBounds_toArray, List.set_cons_zero, List.set_cons_succ]
            refine T_value (get_op rfl) (by rfl) (by rfl) (.bool false) (fun _ _ => by go_simp) ?_
            simp only [Act.put, List.setIfInBounds_toArray, List.set_cons_zero, List.set_cons_succ]
            refine T_value (get_op rfl) (by rfl) (by rfl) (.bool false) (fun _ _ => by go_simp) ?_
            simp only [Act.put, List.setIfInBounds_toArray, List.set_cons_zero, List.set_cons_succ]
            refine T_nil ?_
            intro w30 k30 _
            simp only [List.drop_succ_cons, List.drop_zero]
            have KT : Hid (Keeps (fun _ => False) wt w30) := Lib.hid k30
            clear k30 HO1 HO2 HSM HTL STL
            have HII := Lib.hid (And.intro hil (And.intro hi6 (And.intro hi hi60)))
            clear hand hil hi6 hi hi60
            go_wp2_with fail
            go_loopw [26] (fun kv wr => ∃ kk : Int, -1 ≤ kk ∧ kk ≤ (n : Int) + 1 ∧ kv = .int .i64 kk ∧ Hid (Keeps (fun _ => False) wt wr)) (fun kv _ => ((n : Int) + 1 - intOf kv).toNat)
            case atStart => exact ⟨-1, by omega, by omega, rfl, KT⟩
            case round =>
              obtain ⟨kk, hk1, hk2, rfl, KI⟩ := hrel
              have hn64 : n ≤ 64 := HNN.out.2.2
              have hr12 : wr.cell? ⟨bw, 2, none⟩ = some (.slice (some ⟨g0, 0, none⟩) n c8) := (HRR.out.1.keeps KI.out id).cell 2
              by_cases hkn : kk ≤ (n : Int)
              · have hpe := peer_any wr g b s1 kk (TT.out.later KI.out)
                have HKI : Hid (-1 ≤ kk ∧ kk ≤ (n : Int)) := Lib.hid ⟨hk1, hkn⟩
                by_cases hin : 0 ≤ kk ∧ kk < (n : Int)
                · obtain ⟨q, rfl⟩ := Int.eq_ofNat_of_zero_le hin.1
                  rw [show Sc.has s1 (q : Int) = true from decide_eq_true (by rw [HNN.out.1]; exact hin)] at hpe
                  have hq : s1.ps[q]? = some (Sc.get s1 (q : Int)) := by
                    have := HNN.out.1
                    rw [Sc.get_D (by omega), List.getD_eq_getElem?_getD, List.getElem?_eq_getElem (by omega)]
                    rfl
                  have haw : ∀ V, Keeps (fun _ => False) wr V → Calls Try.prog 20 #[.pointer (some ⟨g, 0, none⟩), .int .i64 (q : Int)] V fun e w' => e = .returned (.bool (decide (0 < (Sc.get s1 (q : Int)).2))) ∧ Keeps (fun _ => False) V w' := fun V hV => taway_any V g b s1 _ ((TT.out.later KI.out).later hV)
                  obtain ⟨p, hp⟩ : ∃ p, Sc.get s1 (q : Int) = p := ⟨_, rfl⟩
                  rw [hp] at hpe hq haw
                  obtain ⟨x, y⟩ := p
                  obtain ⟨cx, cy⟩ := cell_own2 (KI.out.owns HRR.out.2 (fun _ _ => id)) hq (by omega)
                  dsimp only at cx cy
                  obtain ⟨C, hC⟩ : ∃ C, pc (x, y) = C := ⟨_, rfl⟩
                  rw [hC] at hpe
                  have HPE := Lib.hid hpe
                  have SC : Hid ((Try.prog.info? 40).map (·.size) = some C.size) := Lib.hid (by rw [← hC]; exact size_Peer)
                  have SZC : Hid (ZP.size = C.size) := Lib.hid (by rw [← hC, ← HZP.out]; rfl)
                  have OC : Hid (C.all (·.oneCell') = true) := Lib.hid (by rw [← hC]; exact pc_one _)
                  have HCC := Lib.hid hC
                  have HAW0 := Lib.hid haw
                  have HCX := Lib.hid (And.intro cx cy)
                  have hd1 : ((q : Int) < (n : Int)) := hin.2
                  have hd1n : q < n := by omega
                  have hd2 : q ≤ n := by omega
                  clear hpe hC haw cx cy hq hp hin hk1 hk2 hkn
                  as_aux_lemma =>
                    go_wp2_with fail
                    refine HPE.out.mono ?_
                    rintro e v1 ⟨rfl, kv1⟩
                    obtain ⟨b27, hb27⟩ : ∃ x, v1.heap.size = x := ⟨_, rfl⟩
                    obtain ⟨V2, hV2⟩ : ∃ V, v1.alloc (.cells ZP 40) = V := ⟨_, rfl⟩
                    have rv2 : V2.heap[b27]? = some (.cells ZP 40 (0, 0)) := by rw [← hV2, ← hb27]; exact heap_alloc_new v1 _
                    have kv2 : Keeps (fun _ => False) v1 V2 := by rw [← hV2]; exact (Keeps.refl _ _).alloc _
                    obtain ⟨w35, hV3⟩ : ∃ V, V2.setRow b27 C = V := ⟨_, rfl⟩
                    have kv3 : Keeps (fun _ => False) v1 w35 := kv2.trans' (T := fun k => k = b27) (by rw [← hV3]; exact Keeps.setRow _ _) (fun i hi e => by omega)
                    have rv3 : Row w35 b27 40 [.int .i64 x, .int .i64 y] := by
                      have h : w35.heap[b27]? = some (.cells C 40 (0, 0)) := by rw [← hV3]; exact setRow_heap _ _ _ _ _ _ rv2
                      rw [← HCC.out] at h
                      exact h
                    have k35 := kv1.trans kv3
                    obtain ⟨aw, haw⟩ : ∃ a, decide (0 < (x, y).2) = a := ⟨_, rfl⟩
                    have HAW35 : Hid (∀ V, Later w35 V → Calls Try.prog 20 #[.pointer (some ⟨g, 0, none⟩), .int .i64 (q : Int)] V fun e w' => e = .returned (.bool aw) ∧ Later w35 w') := Lib.hid (fun V hV => (HAW0.out V (k35.trans hV.out)).mono fun e w' h => ⟨by rw [← haw]; exact h.1, ⟨hV.out.trans h.2⟩⟩)
                    have HX35 : Hid (∀ V, Later w35 V → V.cell? ⟨b27, 0, none⟩ = some (.int .i64 x)) := Lib.hid (fun V hV => (rv3.keeps hV.out id).cell 0)
                    have HY35 : Hid (∀ V, Later w35 V → V.cell? ⟨b27, 1, none⟩ = some (.int .i64 y)) := Lib.hid (fun V hV => (rv3.keeps hV.out id).cell 1)
                    have hcp : ∀ (a : Addr) (u : Value), wr.cell? a = some u → ∀ V, Later w35 V → V.cell? a = some u := fun a u h V hV => ((k35.trans hV.out).cell (World.block_lt_of_cell? wr _ h) id).trans h
                    have HL35 := Lib.hid (hcp _ _ hr12)
                    have HPX := Lib.hid (hcp _ _ HCX.out.1)
                    have HPY := Lib.hid (hcp _ _ HCX.out.2)
                    have hr35 : w35.cell? ⟨bw, 2, none⟩ = some (.slice (some ⟨g0, 0, none⟩) n c8) := HL35.out w35 ⟨Keeps.refl _ _⟩
                    have hawd : decide (y > 0) = aw := haw
                    have RV2 := Lib.hid rv2
                    have K35 := Lib.hid (KI.out.trans k35)
                    clear rv2 kv2 kv3 rv3 kv1 k35 hcp HPE HAW0 HCC haw
                    go_wp2_with (first
                      | (refine wpList_store_row (by rfl) 40 _ _ (by rfl) b27 C (by rfl) (by rfl) 40 ZP RV2.out SC.out SZC.out OC.out ?_; rw [hV3])
                      | fail)
                    refine wp_region_class (Later w35) (by kernel_rfl) (by kernel_rfl) (⟨(Keeps.refl _ _).drew⟩) ?_
                    refine class_value (by rfl) (.bool true) (fun V hV => by go_simp) ?_
                    simp only [Act.put, List.setIfInBounds_toArray, List.set_cons_zero, List.set_cons_succ]
                    refine class_value (by rfl) (.bool true) (fun V hV => by go_simp) ?_
                    simp only [Act.put, List.setIfInBounds_toArray, List.set_cons_zero, List.set_cons_succ]
                    refine class_value (by rfl) (.bool false) (fun V hV => by go_simp) ?_
                    simp only [Act.put, List.setIfInBounds_toArray, List.set_cons_zero, List.set_cons_succ]
                    refine class_value (by rfl) (.bool false) (fun V hV => by go_simp) ?_
                    simp only [Act.put, List.setIfInBounds_toArray, List.set_cons_zero, List.set_cons_succ]
                    refine class_value (by rfl) (.bool true) (fun V hV => by go_simp) ?_
                    simp only [Act.put, List.setIfInBounds_toArray, List.set_cons_zero, List.set_cons_succ]
                    refine class_value (by rfl) (.bool true) (fun V hV => by go_simp) ?_
                    simp only [Act.put, List.setIfInBounds_toArray, List.set_cons_zero, List.set_cons_succ]
                    refine class_value (by rfl) (.pointer (some ⟨b27, 0, none⟩)) (fun V hV => by go_simp) ?_
                    simp only [Act.put, List.setIfInBounds_toArray, List.set_cons_zero, List.set_cons_succ]
                    refine class_cell (by rfl) 3 (.tmp 179) (by rfl) ⟨b27, 0, none⟩ (by rfl) (.int .i64 x) _ (fun V hV => HX35.out V hV) Try.underlying3 rfl ?_
                    simp only [Act.put, List.setIfInBounds_toArray, List.set_cons_zero, List.set_cons_succ]
                    refine class_value (by rfl) (.pointer (some ⟨bw, 2, none⟩)) (fun V hV => by go_simp) ?_
                    simp only [Act.put, List.setIfInBounds_toArray, List.set_cons_zero, List.set_cons_succ]
                    refine class_cell (by rfl) 28 (.tmp 181) (by rfl) ⟨bw, 2, none⟩ (by rfl) (.slice (some ⟨g0, 0, none⟩) n c8) _ (fun V hV => HL35.out V hV) Try.underlying28 rfl ?_
                    simp only [Act.put, List.setIfInBounds_toArray, List.set_cons_zero, List.set_cons_succ]
                    refine class_value (by rfl) (.int .i64 (q : Int)) (fun V hV => by go_simp) ?_
                    simp only [Act.put, List.setIfInBounds_toArray, List.set_cons_zero, List.set_cons_succ]
                    refine class_value (by rfl) (.pointer (some ⟨g0, q * 2, none⟩)) (fun V hV => by go_simp) ?_
                    simp only [Act.put, List.setIfInBounds_toArray, List.set_cons_zero, List.set_cons_succ]
                    refine class_value (by rfl) (.pointer (some ⟨g0, q * 2, none⟩)) (fun V hV => by go_simp) ?_
                    simp only [Act.put, List.setIfInBounds_toArray, List.set_cons_zero, List.set_cons_succ]
                    refine class_cell (by rfl) 3 (.tmp 185) (by rfl) ⟨g0, q * 2, none⟩ (by rfl) (.int .i64 x) _ (fun V hV => HPX.out V hV) Try.underlying3 rfl ?_
                    simp only [Act.put, List.setIfInBounds_toArray, List.set_cons_zero, List.set_cons_succ]
                    refine class_value (by rfl) (.bool false) (fun V hV => by go_simp) ?_
                    simp only [Act.put, List.setIfInBounds_toArray, List.set_cons_zero, List.set_cons_succ]
                    refine class_value (by rfl) (.bool false) (fun V hV => by go_simp) ?_
                    simp only [Act.put, List.setIfInBounds_toArray, List.set_cons_zero, List.set_cons_succ]
                    refine class_value (by rfl) (.pointer (some ⟨b27, 1, none⟩)) (fun V hV => by go_simp) ?_
                    simp only [Act.put, List.setIfInBounds_toArray, List.set_cons_zero, List.set_cons_succ]
                    refine class_cell (by rfl) 3 (.tmp 189) (by rfl) ⟨b27, 1, none⟩ (by rfl) (.int .i64 y) _ (fun V hV => HY35.out V hV) Try.underlying3 rfl ?_
                    simp only [Act.put, List.setIfInBounds_toArray, List.set_cons_zero, List.set_cons_succ]
                    refine class_value (by rfl) (.pointer (some ⟨bw, 2, none⟩)) (fun V hV => by go_simp) ?_
                    simp only [Act.put, List.setIfInBounds_toArray, List.set_cons_zero, List.set_cons_succ]
                    refine class_cell (by rfl) 28 (.tmp 191) (by rfl) ⟨bw, 2, none⟩ (by rfl) (.slice (some ⟨g0, 0, none⟩) n c8) _ (fun V hV => HL35.out V hV) Try.underlying28 rfl ?_
                    simp only [Act.put, List.setIfInBounds_toArray, List.set_cons_zero, List.set_cons_succ]
                    refine class_value (by rfl) (.int .i64 (q : Int)) (fun V hV => by go_simp) ?_
                    simp only [Act.put, List.setIfInBounds_toArray, List.set_cons_zero, List.set_cons_succ]
                    refine class_value (by rfl) (.pointer (some ⟨g0, q * 2, none⟩)) (fun V hV => by go_simp) ?_
                    simp only [Act.put, List.setIfInBounds_toArray, List.set_cons_zero, List.set_cons_succ]
                    refine class_value (by rfl) (.pointer (some ⟨g0, q * 2 + 1, none⟩)) (fun V hV => by go_simp) ?_
                    simp only [Act.put, List.setIfInBounds_toArray, List.set_cons_zero, List.set_cons_succ]
                    refine class_cell (by rfl) 3 (.tmp 195) (by rfl) ⟨g0, q * 2 + 1, none⟩ (by rfl) (.int .i64 y) _ (fun V hV => HPY.out V hV) Try.underlying3 rfl ?_
                    simp only [Act.put, List.setIfInBounds_toArray, List.set_cons_zero, List.set_cons_succ]
                    refine class_value (by rfl) (.bool false) (fun V hV => by go_simp) ?_
                    simp only [Act.put, List.setIfInBounds_toArray, List.set_cons_zero, List.set_cons_succ]
                    refine class_value (by rfl) (.bool false) (fun V hV => by go_simp) ?_
                    simp only [Act.put, List.setIfInBounds_toArray, List.set_cons_zero, List.set_cons_succ]
                    refine class_value (by rfl) (.bool false) (fun V hV => by go_simp) ?_
                    simp only [Act.put, List.setIfInBounds_toArray, List.set_cons_zero, List.set_cons_succ]
                    refine class_value (by rfl) (.pointer (some ⟨g, 0, none⟩)) (fun V hV => by go_simp) ?_
                    simp only [Act.put, List.setIfInBounds_toArray, List.set_cons_zero, List.set_cons_succ]
                    refine class_value (by rfl) (.int .i64 (q : Int)) (fun V hV => by go_simp) ?_
                    simp only [Act.put, List.setIfInBounds_toArray, List.set_cons_zero, List.set_cons_succ]
                    refine class_callW (by rfl) _ _ (.bool aw) (fun _ => by go_simp) (fun V hV => HAW35.out V hV) ?_
                    simp only [Act.put, List.setIfInBounds_toArray, List.set_cons_zero, List.set_cons_succ]
                    refine class_value (by rfl) (.pointer (some ⟨b27, 1, none⟩)) (fun V hV => by go_simp) ?_
                    simp only [Act.put, List.setIfInBounds_toArray, List.set_cons_zero, List.set_cons_succ]
                    refine class_cell (by rfl) 3 (.tmp 203) (by rfl) ⟨b27, 1, none⟩ (by rfl) (.int .i64 y) _ (fun V hV => HY35.out V hV) Try.underlying3 rfl ?_
                    simp only [Act.put, List.setIfInBounds_toArray, List.set_cons_zero, List.set_cons_succ]
                    refine class_value (by rfl) (.bool aw) (fun V hV => by go_simp) ?_
                    simp only [Act.put, List.setIfInBounds_toArray, List.set_cons_zero, List.set_cons_succ]
                    refine class_value (by rfl) (.bool false) (fun V hV => by go_simp) ?_
                    simp only [Act.put, List.setIfInBounds_toArray, List.set_cons_zero, List.set_cons_succ]
                    refine class_value (by rfl) (.bool false) (fun V hV => by go_simp) ?_
                    simp only [Act.put, List.setIfInBounds_toArray, List.set_cons_zero, List.set_cons_succ]
                    refine class_value (by rfl) (.bool false) (fun V hV => by go_simp) ?_
                    simp only [Act.put, List.setIfInBounds_toArray, List.set_cons_zero, List.set_cons_succ]
                    refine class_value (by rfl) (.bool false) (fun V hV => by go_simp) ?_
                    simp only [Act.put, List.setIfInBounds_toArray, List.set_cons_zero, List.set_cons_succ]
                    refine class_value (by rfl) (.bool false) (fun V hV => by go_simp) ?_
                    simp only [Act.put, List.setIfInBounds_toArray, List.set_cons_zero, List.set_cons_succ]
                    refine class_value (by rfl) (.bool true) (fun V hV => by go_simp) ?_
                    simp only [Act.put, List.setIfInBounds_toArray, List.set_cons_zero, List.set_cons_succ]
                    refine class_value (by rfl) (.bool false) (fun V hV => by go_simp) ?_
                    simp only [Act.put, List.setIfInBounds_toArray, List.set_cons_zero, List.set_cons_succ]
                    refine class_value (by rfl) (.bool false) (fun V hV => by go_simp) ?_
                    simp only [Act.put, List.setIfInBounds_toArray, List.set_cons_zero, List.set_cons_succ]
                    go_big_quiet_skip
                    go_big_quiet_skip
                    go_big_quiet_skip
                    refine class_value (by rfl) (.bool false) (fun V hV => by go_simp) ?_
                    simp only [Act.put, List.setIfInBounds_toArray, List.set_cons_zero, List.set_cons_succ]
                    refine class_value (by rfl) (.bool false) (fun V hV => by go_simp) ?_
                    simp only [Act.put, List.setIfInBounds_toArray, List.set_cons_zero, List.set_cons_succ]
                    refine wpQuiet_nil ?_
                    intro w37 k37
                    have K37 := Lib.hid (K35.out.trans k37.out)
                    clear k37
                    go_wp2
                    go_roundw
                    case rel => exact ⟨(q : Int) + 1, by omega, by omega, by go_num, K37⟩
                    case measure => first | (simp [intOf]; done) | (simp [intOf]; omega)
                · rw [show Sc.has s1 kk = false from decide_eq_false (by rw [HNN.out.1]; exact hin), show Sc.get s1 kk = (0, 0) by unfold Sc.get; rw [if_neg (by rw [HNN.out.1]; exact hin)], HZP.out] at hpe
                  have HPE := Lib.hid hpe
                  have haw : ∀ V, Keeps (fun _ => False) wr V → Calls Try.prog 20 #[.pointer (some ⟨g, 0, none⟩), .int .i64 kk] V fun e w' => e = .returned (.bool false) ∧ Keeps (fun _ => False) V w' := fun V hV => by
                    have := taway_any V g b s1 kk ((TT.out.later KI.out).later hV)
                    rwa [show Sc.get s1 kk = (0, 0) by unfold Sc.get; rw [if_neg (by rw [HNN.out.1]; exact hin)]] at this
                  have HAW0 := Lib.hid haw
                  have hd0 : kk ≤ (n : Int) := hkn
                  have HKB : Hid (-1 ≤ kk ∧ kk ≤ (n : Int)) := Lib.hid ⟨hk1, hkn⟩
                  rcases (show (kk = -1) ∨ (kk = (n : Int)) by omega) with hke | hke
                  · subst hke
                    clear hpe haw hin hk1 hk2 hkn
                    go_wp2_with fail
                    refine HPE.out.mono ?_
                    rintro e v1 ⟨rfl, kv1⟩
                    obtain ⟨b27, hb27⟩ : ∃ x, v1.heap.size = x := ⟨_, rfl⟩
                    obtain ⟨V2, hV2⟩ : ∃ V, v1.alloc (.cells ZP 40) = V := ⟨_, rfl⟩
                    have rv2 : V2.heap[b27]? = some (.cells ZP 40 (0, 0)) := by rw [← hV2, ← hb27]; exact heap_alloc_new v1 _
                    have kv2 : Keeps (fun _ => False) v1 V2 := by rw [← hV2]; exact (Keeps.refl _ _).alloc _
                    obtain ⟨w35, hV3⟩ : ∃ V, V2.setRow b27 ZP = V := ⟨_, rfl⟩
                    have kv3 : Keeps (fun _ => False) v1 w35 := kv2.trans' (T := fun k => k = b27) (by rw [← hV3]; exact Keeps.setRow _ _) (fun i hi e => by omega)
                    have k35 := kv1.trans kv3
                    have HAW35 := Lib.hid (fun (V : World) (hV : Later w35 V) => (HAW0.out V (k35.trans hV.out)).mono (fun e w' h => (⟨h.1, ⟨hV.out.trans h.2⟩⟩ : e = .returned (.bool false) ∧ Later w35 w')))
                    have hr35 : w35.cell? ⟨bw, 2, none⟩ = some (.slice (some ⟨g0, 0, none⟩) n c8) := (k35.cell (World.block_lt_of_cell? wr _ hr12) id).trans hr12
                    have RV2 := Lib.hid rv2
                    have K35 := Lib.hid (KI.out.trans k35)
                    clear rv2 kv2 kv3 kv1 k35 HPE HAW0
                    go_wp2_with (first
                      | (refine wpList_store_row (by rfl) 40 _ _ (by rfl) b27 ZP (by rfl) (by rfl) 40 ZP RV2.out SZP.out rfl OZP.out ?_; rw [hV3])
                      | fail)
                    refine wp_region_class (Later w35) (by kernel_rfl) (by kernel_rfl) (⟨(Keeps.refl _ _).drew⟩) ?_
                    refine class_value (by rfl) (.bool false) (fun V hV => by go_simp) ?_
                    simp only [Act.put, List.setIfInBounds_toArray, List.set_cons_zero, List.set_cons_succ]
                    refine class_value (by rfl) (.bool false) (fun V hV => by go_simp) ?_
                    simp only [Act.put, List.setIfInBounds_toArray, List.set_cons_zero, List.set_cons_succ]
                    refine class_value (by rfl) (.bool false) (fun V hV => by go_simp) ?_
                    simp only [Act.put, List.setIfInBounds_toArray, List.set_cons_zero, List.set_cons_succ]
                    refine class_value (by rfl) (.bool false) (fun V hV => by go_simp) ?_
                    simp only [Act.put, List.setIfInBounds_toArray, List.set_cons_zero, List.set_cons_succ]
                    refine class_value (by rfl) (.bool false) (fun V hV => by go_simp) ?_
                    simp only [Act.put, List.setIfInBounds_toArray, List.set_cons_zero, List.set_cons_succ]
                    refine class_value (by rfl) (.bool false) (fun V hV => by go_simp) ?_
                    simp only [Act.put, List.setIfInBounds_toArray, List.set_cons_zero, List.set_cons_succ]
                    go_big_quiet_skip
                    go_big_quiet_skip
                    go_big_quiet_skip
                    go_big_quiet_skip
                    go_big_quiet_skip
                    go_big_quiet_skip
                    go_big_quiet_skip
                    go_big_quiet_skip
                    go_big_quiet_skip
                    go_big_quiet_skip
                    go_big_quiet_skip
                    go_big_quiet_skip
                    go_big_quiet_skip
                    go_big_quiet_skip
                    go_big_quiet_skip
                    go_big_quiet_skip
                    go_big_quiet_skip
                    go_big_quiet_skip
                    go_big_quiet_skip
                    go_big_quiet_skip
                    go_big_quiet_skip
                    go_big_quiet_skip
                    go_big_quiet_skip
                    go_big_quiet_skip
                    go_big_quiet_skip
                    go_big_quiet_skip
                    go_big_quiet_skip
                    go_big_quiet_skip
                    go_big_quiet_skip
                    refine class_value (by rfl) (.bool false) (fun V hV => by go_simp) ?_
                    simp only [Act.put, List.setIfInBounds_toArray, List.set_cons_zero, List.set_cons_succ]
                    refine class_value (by rfl) (.bool false) (fun V hV => by go_simp) ?_
                    simp only [Act.put, List.setIfInBounds_toArray, List.set_cons_zero, List.set_cons_succ]
                    refine class_value (by rfl) (.bool false) (fun V hV => by go_simp) ?_
                    simp only [Act.put, List.setIfInBounds_toArray, List.set_cons_zero, List.set_cons_succ]
                    refine class_value (by rfl) (.bool false) (fun V hV => by go_simp) ?_
                    simp only [Act.put, List.setIfInBounds_toArray, List.set_cons_zero, List.set_cons_succ]
                    refine class_value (by rfl) (.bool true) (fun V hV => by go_simp) ?_
                    simp only [Act.put, List.setIfInBounds_toArray, List.set_cons_zero, List.set_cons_succ]
                    refine class_value (by rfl) (.bool true) (fun V hV => by go_simp) ?_
                    simp only [Act.put, List.setIfInBounds_toArray, List.set_cons_zero, List.set_cons_succ]
                    refine class_value (by rfl) (.pointer (some ⟨g, 0, none⟩)) (fun V hV => by go_simp) ?_
                    simp only [Act.put, List.setIfInBounds_toArray, List.set_cons_zero, List.set_cons_succ]
                    refine class_value (by rfl) (.int .i64 (-1)) (fun V hV => by go_simp) ?_
                    simp only [Act.put, List.setIfInBounds_toArray, List.set_cons_zero, List.set_cons_succ]
                    refine class_callW (by rfl) _ _ (.bool false) (fun _ => by go_simp) (fun V hV => HAW35.out V hV) ?_
                    simp only [Act.put, List.setIfInBounds_toArray, List.set_cons_zero, List.set_cons_succ]
                    refine class_value (by rfl) (.bool false) (fun V hV => by go_simp) ?_
                    simp only [Act.put, List.setIfInBounds_toArray, List.set_cons_zero, List.set_cons_succ]
                    refine class_value (by rfl) (.bool false) (fun V hV => by go_simp) ?_
                    simp only [Act.put, List.setIfInBounds_toArray, List.set_cons_zero, List.set_cons_succ]
                    refine wpQuiet_nil ?_
                    intro w37 k37
                    have K37 := Lib.hid (K35.out.trans k37.out)
                    clear k37
                    go_wp2
                    go_roundw
                    case rel => exact ⟨(-1) + 1, by omega, by omega, by go_num, K37⟩
                    case measure => first | (simp [intOf]; done) | (simp [intOf]; omega)
                  · subst hke
                    clear hpe haw hin hk1 hk2 hkn
                    go_wp2_with fail
                    refine HPE.out.mono ?_
                    rintro e v1 ⟨rfl, kv1⟩
                    obtain ⟨b27, hb27⟩ : ∃ x, v1.heap.size = x := ⟨_, rfl⟩
                    obtain ⟨V2, hV2⟩ : ∃ V, v1.alloc (.cells ZP 40) = V := ⟨_, rfl⟩
                    have rv2 : V2.heap[b27]? = some (.cells ZP 40 (0, 0)) := by rw [← hV2, ← hb27]; exact heap_alloc_new v1 _
                    have kv2 : Keeps (fun _ => False) v1 V2 := by rw [← hV2]; exact (Keeps.refl _ _).alloc _
                    obtain ⟨w35, hV3⟩ : ∃ V, V2.setRow b27 ZP = V := ⟨_, rfl⟩
                    have kv3 : Keeps (fun _ => False) v1 w35 := kv2.trans' (T := fun k => k = b27) (by rw [← hV3]; exact Keeps.setRow _ _) (fun i hi e => by omega)
                    have k35 := kv1.trans kv3
                    have HAW35 := Lib.hid (fun (V : World) (hV : Later w35 V) => (HAW0.out V (k35.trans hV.out)).mono (fun e w' h => (⟨h.1, ⟨hV.out.trans h.2⟩⟩ : e = .returned (.bool false) ∧ Later w35 w')))
                    have hr35 : w35.cell? ⟨bw, 2, none⟩ = some (.slice (some ⟨g0, 0, none⟩) n c8) := (k35.cell (World.block_lt_of_cell? wr _ hr12) id).trans hr12
                    have RV2 := Lib.hid rv2
                    have K35 := Lib.hid (KI.out.trans k35)
                    clear rv2 kv2 kv3 kv1 k35 HPE HAW0
                    go_wp2_with (first
                      | (refine wpList_store_row (by rfl) 40 _ _ (by rfl) b27 ZP (by rfl) (by rfl) 40 ZP RV2.out SZP.out rfl OZP.out ?_; rw [hV3])
                      | fail)
                    refine wp_region_class (Later w35) (by kernel_rfl) (by kernel_rfl) (⟨(Keeps.refl _ _).drew⟩) ?_
                    refine class_value (by rfl) (.bool false) (fun V hV => by go_simp) ?_
                    simp only [Act.put, List.setIfInBounds_toArray, List.set_cons_zero, List.set_cons_succ]
                    refine class_value (by rfl) (.bool false) (fun V hV => by go_simp) ?_
                    simp only [Act.put, List.setIfInBounds_toArray, List.set_cons_zero, List.set_cons_succ]
                    refine class_value (by rfl) (.bool false) (fun V hV => by go_simp) ?_
                    simp only [Act.put, List.setIfInBounds_toArray, List.set_cons_zero, List.set_cons_succ]
                    refine class_value (by rfl) (.bool false) (fun V hV => by go_simp) ?_
                    simp only [Act.put, List.setIfInBounds_toArray, List.set_cons_zero, List.set_cons_succ]
                    refine class_value (by rfl) (.bool false) (fun V hV => by go_simp) ?_
                    simp only [Act.put, List.setIfInBounds_toArray, List.set_cons_zero, List.set_cons_succ]
                    refine class_value (by rfl) (.bool false) (fun V hV => by go_simp) ?_
                    simp only [Act.put, List.setIfInBounds_toArray, List.set_cons_zero, List.set_cons_succ]
                    go_big_quiet_skip
                    go_big_quiet_skip
                    go_big_quiet_skip
                    go_big_quiet_skip
                    go_big_quiet_skip
                    go_big_quiet_skip
                    go_big_quiet_skip
                    go_big_quiet_skip
                    go_big_quiet_skip
                    go_big_quiet_skip
                    go_big_quiet_skip
                    go_big_quiet_skip
                    go_big_quiet_skip
                    go_big_quiet_skip
                    go_big_quiet_skip
                    go_big_quiet_skip
                    go_big_quiet_skip
                    go_big_quiet_skip
                    go_big_quiet_skip
                    go_big_quiet_skip
                    go_big_quiet_skip
                    go_big_quiet_skip
                    go_big_quiet_skip
                    go_big_quiet_skip
                    go_big_quiet_skip
                    go_big_quiet_skip
                    go_big_quiet_skip
                    go_big_quiet_skip
                    go_big_quiet_skip
                    refine class_value (by rfl) (.bool false) (fun V hV => by go_simp) ?_
                    simp only [Act.put, List.setIfInBounds_toArray, List.set_cons_zero, List.set_cons_succ]
                    refine class_value (by rfl) (.bool false) (fun V hV => by go_simp) ?_
                    simp only [Act.put, List.setIfInBounds_toArray, List.set_cons_zero, List.set_cons_succ]
                    refine class_value (by rfl) (.bool false) (fun V hV => by go_simp) ?_
                    simp only [Act.put, List.setIfInBounds_toArray, List.set_cons_zero, List.set_cons_succ]
                    refine class_value (by rfl) (.bool false) (fun V hV => by go_simp) ?_
                    simp only [Act.put, List.setIfInBounds_toArray, List.set_cons_zero, List.set_cons_succ]
                    refine class_value (by rfl) (.bool true) (fun V hV => by go_simp) ?_
                    simp only [Act.put, List.setIfInBounds_toArray, List.set_cons_zero, List.set_cons_succ]
                    refine class_value (by rfl) (.bool true) (fun V hV => by go_simp) ?_
                    simp only [Act.put, List.setIfInBounds_toArray, List.set_cons_zero, List.set_cons_succ]
                    refine class_value (by rfl) (.pointer (some ⟨g, 0, none⟩)) (fun V hV => by go_simp) ?_
                    simp only [Act.put, List.setIfInBounds_toArray, List.set_cons_zero, List.set_cons_succ]
                    refine class_value (by rfl) (.int .i64 (n : Int)) (fun V hV => by go_simp) ?_
                    simp only [Act.put, List.setIfInBounds_toArray, List.set_cons_zero, List.set_cons_succ]
                    refine class_callW (by rfl) _ _ (.bool false) (fun _ => by go_simp) (fun V hV => HAW35.out V hV) ?_
                    simp only [Act.put, List.setIfInBounds_toArray, List.set_cons_zero, List.set_cons_succ]
                    refine class_value (by rfl) (.bool false) (fun V hV => by go_simp) ?_
                    simp only [Act.put, List.setIfInBounds_toArray, List.set_cons_zero, List.set_cons_succ]
                    refine class_value (by rfl) (.bool false) (fun V hV => by go_simp) ?_
                    simp only [Act.put, List.setIfInBounds_toArray, List.set_cons_zero, List.set_cons_succ]
                    refine wpQuiet_nil ?_
                    intro w37 k37
                    have K37 := Lib.hid (K35.out.trans k37.out)
                    clear k37
                    go_wp2
                    go_roundw
                    case rel => exact ⟨(n : Int) + 1, by omega, by omega, by go_num, K37⟩
                    case measure => first | (simp [intOf]; done) | (simp [intOf]; omega)
              · obtain rfl : kk = (n : Int) + 1 := by omega
                have hd0 : ¬ (n : Int) + 1 ≤ (n : Int) := by omega
                clear hk1 hk2 hkn
                go_wp2
                go_roundw
                case rel => exact ⟨i + 1, s1, some ⟨g0, 0, none⟩, c8, by have := HII.out; omega, by have := HII.out; omega, by go_num, Lib.hid (TT.out.later KI.out), Lib.hid ((show RfAt wt bw s1 (some ⟨g0, 0, none⟩) c8 from ⟨by rw [HNN.out.1]; exact HRR.out.1, by rw [HNN.out.1]; exact HRR.out.2⟩).later KI.out), Lib.hid (KW.out.trans KI.out)⟩
                case measure => first | (simp [intOf]; done) | (simp [intOf]; omega)
        · have hr0 : (r == 0) = false := by simpa using hr.1
          have hr1 : (r == 1) = false := by simpa using hr.2.1
          have hr2 : (r == 2) = false := by simpa using hr.2.2
          clear hr
          as_aux_lemma =>
            go_wp2_with (first
              | (refine wpList_load_any (by rfl) 34 (.tmp 76) (by rfl) (ad.add (i * 4)) (by rfl) [.int .i64 kd, .int .i64 qi, .int .i64 qn, .int .i64 ql] _ HXC.out Try.underlying34 rfl size_act ?_)
              | (refine wpList_store_row (by rfl) 34 (.tmp 15) (.tmp 77) (by rfl) b15 RX (by rfl) (by rw [← HRX.out]; rfl) 34 ZA R5.out RXS.out (NZA.out.trans RXN.out.symm) RXO.out ?_; rw [hW6])
              | fail)
            have hbl := tick_tab W6 g b s T6.out
            obtain ⟨s1, hs1⟩ : ∃ x, Sc.tick s = x := ⟨_, rfl⟩
            have hE : s1.limit = s.limit ∧ s1.hold = s.hold ∧ s1.ps.length = s.ps.length := by rw [← hs1]; exact ⟨rfl, rfl, List.length_map _⟩
            obtain ⟨IV, hIV⟩ : ∃ x, Sc.ins s.ps s.ps.length = x := ⟨_, rfl⟩
            have hi64 : IV.length ≤ 64 := by rw [← hIV]; have := Sc.ins_le s.ps s.ps.length; have := T6.out.ok.many; omega
            rw [hs1, hIV] at hbl
            refine hbl.mono ?_
            rintro e w7 ⟨A5, m5, c5, rfl, rfl, o5, t7, k7⟩
            have f7 := F6.out.turn T6.out.map k7
            obtain ⟨TC, hTC⟩ : ∃ C, tcs s.limit s.hold A1 s.ps.length c1 = C := ⟨_, rfl⟩
            have STC : Hid ((Try.prog.info? 30).map (·.size) = some TC.size) := Lib.hid (by rw [← hTC]; exact size_T)
            have RB7 : Hid (w7.heap[bw]? = some (.cells TC 30 (0, 0))) := Lib.hid (by rw [← hTC]; exact f7.row)
            have T7 := Lib.hid t7
            have F7 := Lib.hid f7
            have K7 : Hid (Keeps (fun _ => False) W w7) := Lib.hid (K6.out.trans' k7 (fun j hj e => by have := HGB.out; omega))
            have hra := R11.out.keeps k7 (fun e => T6.out.map.apart R11.out e.symm)
            have ea1 : w7.cell? ⟨b15, 1, none⟩ = some (.int .i64 qi) := hra.cell 1
            have ea2 : w7.cell? ⟨b15, 2, none⟩ = some (.int .i64 qn) := hra.cell 2
            have ea3 : w7.cell? ⟨b15, 3, none⟩ = some (.int .i64 ql) := hra.cell 3
            have hrb := rtick_any A1 s.ps.length c1 s w7 T6.out.ok rfl f7.own
            rw [hs1, hIV, hTC] at hrb
            have HRB : Hid (Calls Try.prog 15 #[.agg TC] w7 fun e w' => ∃ A' c' A2 m c2, e = .returned (.tuple #[.agg (tcs s1.limit s1.hold A' s1.ps.length c'), .slice A2 m c2]) ∧ m = IV.length ∧ w'.ownsRow w7.heap.size 3 1 (.slice A2 m c2) m (nvs IV) ∧ w'.ownsRow 0 42 2 (.slice A' s1.ps.length c') s1.ps.length (pcells s1.ps) ∧ Keeps (fun _ => False) w7 w') := Lib.hid (by rw [hE.1, hE.2.1, hE.2.2]; exact hrb)
            have HTC := Lib.hid hTC
            have O5 := Lib.hid o5
            clear hbl hrb hTC f7 t7 k7 hra hE hs1 hIV o5
            go_wp2_with (first
              | (refine wpList_load_row (by rfl) 30 (.tmp 12) (by rfl) bw (by rfl) 30 TC (0, 0) _ RB7.out Try.underlying30 rfl STC.out ?_)
              | fail)
            refine HRB.out.mono ?_
            rintro e w8 ⟨A8, c8, A9, m9, c9, rfl, rfl, o9, o8, k8⟩
            clear HRB
            obtain ⟨DC, hDC⟩ : ∃ C, tcs s1.limit s1.hold A8 s1.ps.length c8 = C := ⟨_, rfl⟩
            have SDC : Hid ((Try.prog.info? 30).map (·.size) = some DC.size) := Lib.hid (by rw [← hDC]; exact size_T)
            have NDC : Hid (ZT.size = DC.size) := Lib.hid (by rw [NZT.out, ← hDC]; rfl)
            have ODC : Hid (DC.all (·.oneCell') = true) := Lib.hid (by rw [← hDC]; exact tcs_one _ _ _ _ _)
            obtain ⟨b18, hb18⟩ : ∃ x, w8.heap.size = x := ⟨_, rfl⟩
            obtain ⟨w9, hw9⟩ : ∃ V, w8.alloc (.cells ZT 30) = V := ⟨_, rfl⟩
            have k9 : Keeps (fun _ => False) w8 w9 := by rw [← hw9]; exact (Keeps.refl _ _).alloc _
            have r9 : w9.heap[b18]? = some (.cells ZT 30 (0, 0)) := by rw [← hw9, ← hb18]; exact heap_alloc_new w8 _
            obtain ⟨w10, hw10⟩ : ∃ V, w9.setRow b18 DC = V := ⟨_, rfl⟩
            have k10 : Keeps (fun _ => False) w8 w10 := k9.trans' (T := fun k => k = b18) (by rw [← hw10]; exact Keeps.setRow _ _) (fun j hj e => by omega)
            have r10 : w10.heap[b18]? = some (.cells DC 30 (0, 0)) := by rw [← hw10]; exact setRow_heap _ _ _ _ _ _ r9
            have f10 := F7.out.later (k8.trans k10)
            have hb10 : w10.heap[bw]? = some (.cells TC 30 (0, 0)) := by rw [← HTC.out]; exact f10.row
            have hput := f10.put (s' := s1) (A' := A8) (c' := c8) (k10.owns o8 (fun _ _ => id))
            rw [hDC] at hput
            obtain ⟨wt, hwt⟩ : ∃ V, w10.setRow bw DC = V := ⟨_, rfl⟩
            rw [hwt] at hput
            have TT : Hid (TabAt wt g b s1) := Lib.hid (((T7.out.later (k8.trans k10)).aside (A := none) (c := 0) (.inr ⟨_, f10.row⟩) hput.2))
            have RR : Hid (RfAt wt bw s1 A8 c8) := Lib.hid hput.1
            have KW : Hid (Keeps (fun _ => False) W wt) := Lib.hid ((K7.out.trans (k8.trans k10)).trans' hput.2 (fun j hj e => by have := HBW.out; omega))
            have hs5 := (k8.trans k10).owns O5.out (fun _ _ => id)
            have hs9 := k10.owns o9 (fun _ _ => id)
            have hsame := same_eq A5 A9 IV.length c5 c9 _ _ IV wt (hput.2.owns hs5 (fun k hv e => own_apart hs5 f10.row (by decide) k hv e)) (hput.2.owns hs9 (fun k hv e => own_apart hs9 f10.row (by decide) k hv e)) hi64
            have HSAME := Lib.hid hsame
            clear hs5 hs9 hsame
            have R9 := Lib.hid r9
            have R10 := Lib.hid r10
            have RB10 := Lib.hid hb10
            have NBC : Hid (TC.size = DC.size) := Lib.hid (by rw [← HTC.out, ← hDC]; rfl)
            rw [hDC]
            clear o9 o8 k8 k9 r9 k10 r10 f10 hb10 hput hDC F7 T7 K7
            go_wp2_with (first
              | (refine wpList_store_row (by rfl) 30 _ _ (by rfl) b18 DC (by rfl) (by rfl) 30 ZT R9.out SDC.out NDC.out ODC.out ?_; rw [hw10])
              | (refine wpList_load_row (by rfl) 30 _ (by rfl) b18 (by rfl) 30 DC (0, 0) _ R10.out Try.underlying30 rfl SDC.out ?_)
              | (refine wpList_store_row (by rfl) 30 _ _ (by rfl) bw DC (by rfl) (by rfl) 30 TC RB10.out SDC.out NBC.out ODC.out ?_; rw [hwt])
              | fail)
            refine HSAME.out.mono ?_
            rintro e wu ⟨rfl, ku⟩
            have TTu := Lib.hid (TT.out.later ku)
            have RRu := Lib.hid (RR.out.later ku)
            have KWu := Lib.hid (KW.out.trans ku)
            clear TT RR KW ku HSAME
            obtain ⟨n, hn⟩ : ∃ n, s1.ps.length = n := ⟨_, rfl⟩
            have hnn := TTu.out.ok.many
            rw [hn] at hnn
            have hro0 := RRu.out.own
            rw [hn] at hro0
            obtain ⟨g0, hg0⟩ := own_some13 hro0 (by omega)
            subst hg0
            obtain ⟨TL, hTL⟩ : ∃ L : List Value, [.int .i64 s1.limit, .int .i64 s1.hold, .slice (some ⟨g0, 0, none⟩) n c8] = L := ⟨_, rfl⟩
            have hrr := RRu.out.row
            have hro := RRu.out.own
            rw [hn] at hrr hro
            have HTL : Hid (∀ V, Keeps (fun _ => False) wu V → V.rangeAt bw 0 TL) := Lib.hid (fun V hV => by rw [← hTL]; exact rangeAt_row (hrr.keeps hV id))
            have STL : Hid ((Try.prog.info? 30).map (·.size) = some TL.length) := Lib.hid (by rw [← hTL]; exact size_T)
            obtain ⟨mm, hmm⟩ : ∃ m, (Sc.opens s1.ps n).length = m := ⟨_, rfl⟩
            obtain ⟨OV, hOV⟩ : ∃ v, nvs (Sc.opens s1.ps n) = v := ⟨_, rfl⟩
            have hm64 : mm ≤ 64 := by rw [← hmm]; have := Sc.opens_le s1.ps n; omega
            have HO1 : Hid (∀ V, Keeps (fun _ => False) wu V → Calls Try.prog 17 #[.pointer (some ⟨g, 0, none⟩)] V fun e w' => ∃ x : Option Addr × Nat, e = .returned (.slice x.1 mm x.2) ∧ Keeps (fun _ => False) wu w' ∧ w'.ownsRow 0 3 1 (.slice x.1 mm x.2) mm OV) := Lib.hid (fun V hV => by
              refine (open_tab V g b s1 (TTu.out.later hV)).mono ?_
              rintro e w' ⟨A', m', c', rfl, hm', ho, hk⟩
              rw [hn, hmm] at hm'
              subst hm'
              rw [hn, hOV] at ho
              exact ⟨(A', c'), rfl, hV.trans hk, own_base ho (Nat.zero_le _)⟩)
            have HO2 : Hid (∀ V (A2 : Option Addr) (c2 : Nat), Keeps (fun _ => False) wu V → V.ownsRow 0 3 1 (.slice A2 mm c2) mm OV → Calls Try.prog 18 #[.agg TL.toArray] V fun e w' => ∃ x : Option Addr × Nat, e = .returned (.slice x.1 mm x.2) ∧ Keeps (fun _ => False) wu w' ∧ w'.ownsRow 0 3 1 (.slice A2 mm c2) mm OV ∧ w'.ownsRow 0 3 1 (.slice x.1 mm x.2) mm OV) := Lib.hid (fun V A2 c2 hV h2 => by
              rw [← hTL]
              refine (ropen_any (some ⟨g0, 0, none⟩) n c8 s1 V TTu.out.ok hn (hV.owns hro (fun _ _ => id))).mono ?_
              rintro e w' ⟨A', m', c', rfl, hm', ho, hk⟩
              rw [hmm] at hm'
              subst hm'
              rw [hOV] at ho
              exact ⟨(A', c'), rfl, hV.trans hk, hk.owns h2 (fun _ _ => id), own_base ho (Nat.zero_le _)⟩)
            have HSM : Hid (∀ V (A2 : Option Addr) (c2 : Nat) (A3 : Option Addr) (c3 : Nat), Keeps (fun _ => False) wu V → V.ownsRow 0 3 1 (.slice A2 mm c2) mm OV → V.ownsRow 0 3 1 (.slice A3 mm c3) mm OV → Calls Try.prog 16 #[.slice A2 mm c2, .slice A3 mm c3] V fun e w' => e = .returned (.bool true) ∧ Keeps (fun _ => False) wu w' ∧ True) := Lib.hid (fun V A2 c2 A3 c3 hV h2 h3 => by
              rw [← hOV] at h2 h3
              refine (same_eq A2 A3 mm c2 c3 0 0 _ V h2 h3 hm64).mono ?_
              rintro e w' ⟨h4, h5⟩
              exact ⟨h4, hV.trans h5, trivial⟩)
            have HNN := Lib.hid (And.intro hn hnn)
            have HRR := Lib.hid (And.intro hrr hro)
            clear hn hnn hTL hrr hro hro0 hmm hOV hm64 RRu
            go_wp2_with fail
            refine wp_region_stores 10 [4, 6, 7] [0, 1, 2, 3, 5, 4, 6, 7, 8, 9] (fun V => Keeps (fun _ => False) wu V) (fun V => True) (by kernel_rfl) (by kernel_rfl) (fun _ _ h k => h.trans k) (fun _ _ h _ => h) (((Keeps.refl _ _).drew)) (trivial) ?_
            refine T_quiet (get_op rfl) (by rfl) (by rfl) (by rfl) ?_
            intro K hK
            go_big_quiet_op
            first | go_big_quiet_on | go_big_quiet_call ((intro _; rfl))
            refine T_value (get_op rfl) (by rfl) (by rfl) (.bool false) (fun _ _ => by go_simp) ?_
            simp only [Act.put, List.setIfInBounds_toArray, List.set_cons_zero, List.set_cons_succ]
            refine T_quiet (get_op rfl) (by rfl) (by rfl) (by rfl) ?_
            intro K hK
            go_big_quiet_op
            first | go_big_quiet_on | go_big_quiet_call ((intro _; rfl))
            refine T_quiet (get_op rfl) (by rfl) (by rfl) (by rfl) ?_
            intro K hK
            go_big_quiet_op
            first | go_big_quiet_on | go_big_quiet_call ((intro _; rfl))
            refine T_load (get_op rfl) (by rfl) (by rfl) 30 (.tmp 12) (by rfl) bw 0 (by rfl) TL _ (fun V hV => HTL.out V hV) Try.underlying30 rfl STL.out ?_
            simp only [Act.put, List.setIfInBounds_toArray, List.set_cons_zero, List.set_cons_succ]
            refine T_enterR (get_op rfl) (by rfl) (by rfl) _ _ (fun x : Option Addr × Nat => .slice x.1 mm x.2) (fun x y h => by cases x; cases y; simp at h; simp [h]) (fun _ => by go_simp) (fun x V => V.ownsRow 0 3 1 (.slice x.1 mm x.2) mm OV) (fun x w w' h hk => hk.owns h (fun _ _ => id)) (fun V hb hf => HO1.out V hb) ?_
            intro x4
            simp only [Act.put, List.setIfInBounds_toArray, List.set_cons_zero, List.set_cons_succ]
            refine T_enterR (get_op rfl) (by rfl) (by rfl) _ _ (fun x : Option Addr × Nat => .slice x.1 mm x.2) (fun x y h => by cases x; cases y; simp at h; simp [h]) (fun _ => by go_simp) (fun x V => V.ownsRow 0 3 1 (.slice x4.1 mm x4.2) mm OV ∧ V.ownsRow 0 3 1 (.slice x.1 mm x.2) mm OV) (fun x w w' h hk => ⟨hk.owns h.1 (fun _ _ => id), hk.owns h.2 (fun _ _ => id)⟩) (fun V hb hf => HO2.out V _ _ hb hf) ?_
            intro x6
            simp only [Act.put, List.setIfInBounds_toArray, List.set_cons_zero, List.set_cons_succ]
            refine T_enter (get_op rfl) (by rfl) (by rfl) _ _ (.bool true) (fun _ => by go_simp) (fun V => True) (fun _ _ h _ => h) (fun V hb hf => HSM.out V _ _ _ _ hb hf.1 hf.2) ?_
            simp only [Act.put, List.setIfInBounds_toArray, List.set_cons_zero, List.set_cons_succ]
            refine T_value (get_op rfl) (by rfl) (by rfl) (.bool false) (fun _ _ => by go_simp) ?_
            simp only [Act.put, List.setIfInBounds_toArray, List.set_cons_zero, List.set_cons_succ]
            refine T_value (get_op rfl) (by rfl) (by rfl) (.bool false) (fun _ _ => by go_simp) ?_
            simp only [Act.put, List.setIfInBounds_toArray, List.set_cons_zero, List.set_cons_succ]
            refine T_nil ?_
            intro w30 k30 _
            simp only [List.drop_succ_cons, List.drop_zero]
            have KT : Hid (Keeps (fun _ => False) wu w30) := Lib.hid k30
            clear k30 HO1 HO2 HSM HTL STL
            have HII := Lib.hid (And.intro hil (And.intro hi6 (And.intro hi hi60)))
            clear hand hil hi6 hi hi60
            go_wp2_with fail
            go_loopw [26] (fun kv wr => ∃ kk : Int, -1 ≤ kk ∧ kk ≤ (n : Int) + 1 ∧ kv = .int .i64 kk ∧ Hid (Keeps (fun _ => False) wu wr)) (fun kv _ => ((n : Int) + 1 - intOf kv).toNat)
            case atStart => exact ⟨-1, by omega, by omega, rfl, KT⟩
            case round =>
              obtain ⟨kk, hk1, hk2, rfl, KI⟩ := hrel
              have hn64 : n ≤ 64 := HNN.out.2.2
              have hr12 : wr.cell? ⟨bw, 2, none⟩ = some (.slice (some ⟨g0, 0, none⟩) n c8) := (HRR.out.1.keeps KI.out id).cell 2
              by_cases hkn : kk ≤ (n : Int)
              · have hpe := peer_any wr g b s1 kk (TTu.out.later KI.out)
                have HKI : Hid (-1 ≤ kk ∧ kk ≤ (n : Int)) := Lib.hid ⟨hk1, hkn⟩
                by_cases hin : 0 ≤ kk ∧ kk < (n : Int)
                · obtain ⟨q, rfl⟩ := Int.eq_ofNat_of_zero_le hin.1
                  rw [show Sc.has s1 (q : Int) = true from decide_eq_true (by rw [HNN.out.1]; exact hin)] at hpe
                  have hq : s1.ps[q]? = some (Sc.get s1 (q : Int)) := by
                    have := HNN.out.1
                    rw [Sc.get_D (by omega), List.getD_eq_getElem?_getD, List.getElem?_eq_getElem (by omega)]
                    rfl
                  have haw : ∀ V, Keeps (fun _ => False) wr V → Calls Try.prog 20 #[.pointer (some ⟨g, 0, none⟩), .int .i64 (q : Int)] V fun e w' => e = .returned (.bool (decide (0 < (Sc.get s1 (q : Int)).2))) ∧ Keeps (fun _ => False) V w' := fun V hV => taway_any V g b s1 _ ((TTu.out.later KI.out).later hV)
                  obtain ⟨p, hp⟩ : ∃ p, Sc.get s1 (q : Int) = p := ⟨_, rfl⟩
                  rw [hp] at hpe hq haw
                  obtain ⟨x, y⟩ := p
                  obtain ⟨cx, cy⟩ := cell_own2 (KI.out.owns HRR.out.2 (fun _ _ => id)) hq (by omega)
                  dsimp only at cx cy
                  obtain ⟨C, hC⟩ : ∃ C, pc (x, y) = C := ⟨_, rfl⟩
                  rw [hC] at hpe
                  have HPE := Lib.hid hpe
                  have SC : Hid ((Try.prog.info? 40).map (·.size) = some C.size) := Lib.hid (by rw [← hC]; exact size_Peer)
                  have SZC : Hid (ZP.size = C.size) := Lib.hid (by rw [← hC, ← HZP.out]; rfl)
                  have OC : Hid (C.all (·.oneCell') = true) := Lib.hid (by rw [← hC]; exact pc_one _)
                  have HCC := Lib.hid hC
                  have HAW0 := Lib.hid haw
                  have HCX := Lib.hid (And.intro cx cy)
                  have hd1 : ((q : Int) < (n : Int)) := hin.2
                  have hd1n : q < n := by omega
                  have hd2 : q ≤ n := by omega
                  clear hpe hC haw cx cy hq hp hin hk1 hk2 hkn
                  as_aux_lemma =>
                    go_wp2_with fail
                    refine HPE.out.mono ?_
                    rintro e v1 ⟨rfl, kv1⟩
                    obtain ⟨b27, hb27⟩ : ∃ x, v1.heap.size = x := ⟨_, rfl⟩
                    obtain ⟨V2, hV2⟩ : ∃ V, v1.alloc (.cells ZP 40) = V := ⟨_, rfl⟩
                    have rv2 : V2.heap[b27]? = some (.cells ZP 40 (0, 0)) := by rw [← hV2, ← hb27]; exact heap_alloc_new v1 _
                    have kv2 : Keeps (fun _ => False) v1 V2 := by rw [← hV2]; exact (Keeps.refl _ _).alloc _
                    obtain ⟨w35, hV3⟩ : ∃ V, V2.setRow b27 C = V := ⟨_, rfl⟩
                    have kv3 : Keeps (fun _ => False) v1 w35 := kv2.trans' (T := fun k => k = b27) (by rw [← hV3]; exact Keeps.setRow _ _) (fun i hi e => by omega)
                    have rv3 : Row w35 b27 40 [.int .i64 x, .int .i64 y] := by
                      have h : w35.heap[b27]? = some (.cells C 40 (0, 0)) := by rw [← hV3]; exact setRow_heap _ _ _ _ _ _ rv2
                      rw [← HCC.out] at h
                      exact h
                    have k35 := kv1.trans kv3
                    obtain ⟨aw, haw⟩ : ∃ a, decide (0 < (x, y).2) = a := ⟨_, rfl⟩
                    have HAW35 : Hid (∀ V, Later w35 V → Calls Try.prog 20 #[.pointer (some ⟨g, 0, none⟩), .int .i64 (q : Int)] V fun e w' => e = .returned (.bool aw) ∧ Later w35 w') := Lib.hid (fun V hV => (HAW0.out V (k35.trans hV.out)).mono fun e w' h => ⟨by rw [← haw]; exact h.1, ⟨hV.out.trans h.2⟩⟩)
                    have HX35 : Hid (∀ V, Later w35 V → V.cell? ⟨b27, 0, none⟩ = some (.int .i64 x)) := Lib.hid (fun V hV => (rv3.keeps hV.out id).cell 0)
                    have HY35 : Hid (∀ V, Later w35 V → V.cell? ⟨b27, 1, none⟩ = some (.int .i64 y)) := Lib.hid (fun V hV => (rv3.keeps hV.out id).cell 1)
                    have hcp : ∀ (a : Addr) (u : Value), wr.cell? a = some u → ∀ V, Later w35 V → V.cell? a = some u := fun a u h V hV => ((k35.trans hV.out).cell (World.block_lt_of_cell? wr _ h) id).trans h
                    have HL35 := Lib.hid (hcp _ _ hr12)
                    have HPX := Lib.hid (hcp _ _ HCX.out.1)
                    have HPY := Lib.hid (hcp _ _ HCX.out.2)
                    have hr35 : w35.cell? ⟨bw, 2, none⟩ = some (.slice (some ⟨g0, 0, none⟩) n c8) := HL35.out w35 ⟨Keeps.refl _ _⟩
                    have hawd : decide (y > 0) = aw := haw
                    have RV2 := Lib.hid rv2
                    have K35 := Lib.hid (KI.out.trans k35)
                    clear rv2 kv2 kv3 rv3 kv1 k35 hcp HPE HAW0 HCC haw
                    go_wp2_with (first
                      | (refine wpList_store_row (by rfl) 40 _ _ (by rfl) b27 C (by rfl) (by rfl) 40 ZP RV2.out SC.out SZC.out OC.out ?_; rw [hV3])
                      | fail)
                    refine wp_region_class (Later w35) (by kernel_rfl) (by kernel_rfl) (⟨(Keeps.refl _ _).drew⟩) ?_
                    refine class_value (by rfl) (.bool true) (fun V hV => by go_simp) ?_
                    simp only [Act.put, List.setIfInBounds_toArray, List.set_cons_zero, List.set_cons_succ]
                    refine class_value (by rfl) (.bool true) (fun V hV => by go_simp) ?_
                    simp only [Act.put, List.setIfInBounds_toArray, List.set_cons_zero, List.set_cons_succ]
                    refine class_value (by rfl) (.bool false) (fun V hV => by go_simp) ?_
                    simp only [Act.put, List.setIfInBounds_toArray, List.set_cons_zero, List.set_cons_succ]
                    refine class_value (by rfl) (.bool false) (fun V hV => by go_simp) ?_
                    simp only [Act.put, List.setIfInBounds_toArray, List.set_cons_zero, List.set_cons_succ]
                    refine class_value (by rfl) (.bool true) (fun V hV => by go_simp) ?_
                    simp only [Act.put, List.setIfInBounds_toArray, List.set_cons_zero, List.set_cons_succ]
                    refine class_value (by rfl) (.bool true) (fun V hV => by go_simp) ?_
                    simp only [Act.put, List.setIfInBounds_toArray, List.set_cons_zero, List.set_cons_succ]
                    refine class_value (by rfl) (.pointer (some ⟨b27, 0, none⟩)) (fun V hV => by go_simp) ?_
                    simp only [Act.put, List.setIfInBounds_toArray, List.set_cons_zero, List.set_cons_succ]
                    refine class_cell (by rfl) 3 (.tmp 179) (by rfl) ⟨b27, 0, none⟩ (by rfl) (.int .i64 x) _ (fun V hV => HX35.out V hV) Try.underlying3 rfl ?_
                    simp only [Act.put, List.setIfInBounds_toArray, List.set_cons_zero, List.set_cons_succ]
                    refine class_value (by rfl) (.pointer (some ⟨bw, 2, none⟩)) (fun V hV => by go_simp) ?_
                    simp only [Act.put, List.setIfInBounds_toArray, List.set_cons_zero, List.set_cons_succ]
                    refine class_cell (by rfl) 28 (.tmp 181) (by rfl) ⟨bw, 2, none⟩ (by rfl) (.slice (some ⟨g0, 0, none⟩) n c8) _ (fun V hV => HL35.out V hV) Try.underlying28 rfl ?_
                    simp only [Act.put, List.setIfInBounds_toArray, List.set_cons_zero, List.set_cons_succ]
                    refine class_value (by rfl) (.int .i64 (q : Int)) (fun V hV => by go_simp) ?_
                    simp only [Act.put, List.setIfInBounds_toArray, List.set_cons_zero, List.set_cons_succ]
                    refine class_value (by rfl) (.pointer (some ⟨g0, q * 2, none⟩)) (fun V hV => by go_simp) ?_
                    simp only [Act.put, List.setIfInBounds_toArray, List.set_cons_zero, List.set_cons_succ]
                    refine class_value (by rfl) (.pointer (some ⟨g0, q * 2, none⟩)) (fun V hV => by go_simp) ?_
                    simp only [Act.put, List.setIfInBounds_toArray, List.set_cons_zero, List.set_cons_succ]
                    refine class_cell (by rfl) 3 (.tmp 185) (by rfl) ⟨g0, q * 2, none⟩ (by rfl) (.int .i64 x) _ (fun V hV => HPX.out V hV) Try.underlying3 rfl ?_
                    simp only [Act.put, List.setIfInBounds_toArray, List.set_cons_zero, List.set_cons_succ]
                    refine class_value (by rfl) (.bool false) (fun V hV => by go_simp) ?_
                    simp only [Act.put, List.setIfInBounds_toArray, List.set_cons_zero, List.set_cons_succ]
                    refine class_value (by rfl) (.bool false) (fun V hV => by go_simp) ?_
                    simp only [Act.put, List.setIfInBounds_toArray, List.set_cons_zero, List.set_cons_succ]
                    refine class_value (by rfl) (.pointer (some ⟨b27, 1, none⟩)) (fun V hV => by go_simp) ?_
                    simp only [Act.put, List.setIfInBounds_toArray, List.set_cons_zero, List.set_cons_succ]
                    refine class_cell (by rfl) 3 (.tmp 189) (by rfl) ⟨b27, 1, none⟩ (by rfl) (.int .i64 y) _ (fun V hV => HY35.out V hV) Try.underlying3 rfl ?_
                    simp only [Act.put, List.setIfInBounds_toArray, List.set_cons_zero, List.set_cons_succ]
                    refine class_value (by rfl) (.pointer (some ⟨bw, 2, none⟩)) (fun V hV => by go_simp) ?_
                    simp only [Act.put, List.setIfInBounds_toArray, List.set_cons_zero, List.set_cons_succ]
                    refine class_cell (by rfl) 28 (.tmp 191) (by rfl) ⟨bw, 2, none⟩ (by rfl) (.slice (some ⟨g0, 0, none⟩) n c8) _ (fun V hV => HL35.out V hV) Try.underlying28 rfl ?_
                    simp only [Act.put, List.setIfInBounds_toArray, List.set_cons_zero, List.set_cons_succ]
                    refine class_value (by rfl) (.int .i64 (q : Int)) (fun V hV => by go_simp) ?_
                    simp only [Act.put, List.setIfInBounds_toArray, List.set_cons_zero, List.set_cons_succ]
                    refine class_value (by rfl) (.pointer (some ⟨g0, q * 2, none⟩)) (fun V hV => by go_simp) ?_
                    simp only [Act.put, List.setIfInBounds_toArray, List.set_cons_zero, List.set_cons_succ]
                    refine class_value (by rfl) (.pointer (some ⟨g0, q * 2 + 1, none⟩)) (fun V hV => by go_simp) ?_
                    simp only [Act.put, List.setIfInBounds_toArray, List.set_cons_zero, List.set_cons_succ]
                    refine class_cell (by rfl) 3 (.tmp 195) (by rfl) ⟨g0, q * 2 + 1, none⟩ (by rfl) (.int .i64 y) _ (fun V hV => HPY.out V hV) Try.underlying3 rfl ?_
                    simp only [Act.put, List.setIfInBounds_toArray, List.set_cons_zero, List.set_cons_succ]
                    refine class_value (by rfl) (.bool false) (fun V hV => by go_simp) ?_
                    simp only [Act.put, List.setIfInBounds_toArray, List.set_cons_zero, List.set_cons_succ]
                    refine class_value (by rfl) (.bool false) (fun V hV => by go_simp) ?_
                    simp only [Act.put, List.setIfInBounds_toArray, List.set_cons_zero, List.set_cons_succ]
                    refine class_value (by rfl) (.bool false) (fun V hV => by go_simp) ?_
                    simp only [Act.put, List.setIfInBounds_toArray, List.set_cons_zero, List.set_cons_succ]
                    refine class_value (by rfl) (.pointer (some ⟨g, 0, none⟩)) (fun V hV => by go_simp) ?_
                    simp only [Act.put, List.setIfInBounds_toArray, List.set_cons_zero, List.set_cons_succ]
                    refine class_value (by rfl) (.int .i64 (q : Int)) (fun V hV => by go_simp) ?_
                    simp only [Act.put, List.setIfInBounds_toArray, List.set_cons_zero, List.set_cons_succ]
                    refine class_callW (by rfl) _ _ (.bool aw) (fun _ => by go_simp) (fun V hV => HAW35.out V hV) ?_
                    simp only [Act.put, List.setIfInBounds_toArray, List.set_cons_zero, List.set_cons_succ]
                    refine class_value (by rfl) (.pointer (some ⟨b27, 1, none⟩)) (fun V hV => by go_simp) ?_
                    simp only [Act.put, List.setIfInBounds_toArray, List.set_cons_zero, List.set_cons_succ]
                    refine class_cell (by rfl) 3 (.tmp 203) (by rfl) ⟨b27, 1, none⟩ (by rfl) (.int .i64 y) _ (fun V hV => HY35.out V hV) Try.underlying3 rfl ?_
                    simp only [Act.put, List.setIfInBounds_toArray, List.set_cons_zero, List.set_cons_succ]
                    refine class_value (by rfl) (.bool aw) (fun V hV => by go_simp) ?_
                    simp only [Act.put, List.setIfInBounds_toArray, List.set_cons_zero, List.set_cons_succ]
                    refine class_value (by rfl) (.bool false) (fun V hV => by go_simp) ?_
                    simp only [Act.put, List.setIfInBounds_toArray, List.set_cons_zero, List.set_cons_succ]
                    refine class_value (by rfl) (.bool false) (fun V hV => by go_simp) ?_
                    simp only [Act.put, List.setIfInBounds_toArray, List.set_cons_zero, List.set_cons_succ]
                    refine class_value (by rfl) (.bool false) (fun V hV => by go_simp) ?_
                    simp only [Act.put, List.setIfInBounds_toArray, List.set_cons_zero, List.set_cons_succ]
                    refine class_value (by rfl) (.bool false) (fun V hV => by go_simp) ?_
                    simp only [Act.put, List.setIfInBounds_toArray, List.set_cons_zero, List.set_cons_succ]
                    refine class_value (by rfl) (.bool false) (fun V hV => by go_simp) ?_
                    simp only [Act.put, List.setIfInBounds_toArray, List.set_cons_zero, List.set_cons_succ]
                    refine class_value (by rfl) (.bool true) (fun V hV => by go_simp) ?_
                    simp only [Act.put, List.setIfInBounds_toArray, List.set_cons_zero, List.set_cons_succ]
                    refine class_value (by rfl) (.bool false) (fun V hV => by go_simp) ?_
                    simp only [Act.put, List.setIfInBounds_toArray, List.set_cons_zero, List.set_cons_succ]
                    refine class_value (by rfl) (.bool false) (fun V hV => by go_simp) ?_
                    simp only [Act.put, List.setIfInBounds_toArray, List.set_cons_zero, List.set_cons_succ]
                    go_big_quiet_skip
                    go_big_quiet_skip
                    go_big_quiet_skip
                    refine class_value (by rfl) (.bool false) (fun V hV => by go_simp) ?_
                    simp only [Act.put, List.setIfInBounds_toArray, List.set_cons_zero, List.set_cons_succ]
                    refine class_value (by rfl) (.bool false) (fun V hV => by go_simp) ?_
                    simp only [Act.put, List.setIfInBounds_toArray, List.set_cons_zero, List.set_cons_succ]
                    refine wpQuiet_nil ?_
                    intro w37 k37
                    have K37 := Lib.hid (K35.out.trans k37.out)
                    clear k37
                    go_wp2
                    go_roundw
                    case rel => exact ⟨(q : Int) + 1, by omega, by omega, by go_num, K37⟩
                    case measure => first | (simp [intOf]; done) | (simp [intOf]; omega)
                · rw [show Sc.has s1 kk = false from decide_eq_false (by rw [HNN.out.1]; exact hin), show Sc.get s1 kk = (0, 0) by unfold Sc.get; rw [if_neg (by rw [HNN.out.1]; exact hin)], HZP.out] at hpe
                  have HPE := Lib.hid hpe
                  have haw : ∀ V, Keeps (fun _ => False) wr V → Calls Try.prog 20 #[.pointer (some ⟨g, 0, none⟩), .int .i64 kk] V fun e w' => e = .returned (.bool false) ∧ Keeps (fun _ => False) V w' := fun V hV => by
                    have := taway_any V g b s1 kk ((TTu.out.later KI.out).later hV)
                    rwa [show Sc.get s1 kk = (0, 0) by unfold Sc.get; rw [if_neg (by rw [HNN.out.1]; exact hin)]] at this
                  have HAW0 := Lib.hid haw
                  have hd0 : kk ≤ (n : Int) := hkn
                  have HKB : Hid (-1 ≤ kk ∧ kk ≤ (n : Int)) := Lib.hid ⟨hk1, hkn⟩
                  rcases (show (kk = -1) ∨ (kk = (n : Int)) by omega) with hke | hke
                  · subst hke
                    clear hpe haw hin hk1 hk2 hkn
                    go_wp2_with fail
                    refine HPE.out.mono ?_
                    rintro e v1 ⟨rfl, kv1⟩
                    obtain ⟨b27, hb27⟩ : ∃ x, v1.heap.size = x := ⟨_, rfl⟩
                    obtain ⟨V2, hV2⟩ : ∃ V, v1.alloc (.cells ZP 40) = V := ⟨_, rfl⟩
                    have rv2 : V2.heap[b27]? = some (.cells ZP 40 (0, 0)) := by rw [← hV2, ← hb27]; exact heap_alloc_new v1 _
                    have kv2 : Keeps (fun _ => False) v1 V2 := by rw [← hV2]; exact (Keeps.refl _ _).alloc _
                    obtain ⟨w35, hV3⟩ : ∃ V, V2.setRow b27 ZP = V := ⟨_, rfl⟩
                    have kv3 : Keeps (fun _ => False) v1 w35 := kv2.trans' (T := fun k => k = b27) (by rw [← hV3]; exact Keeps.setRow _ _) (fun i hi e => by omega)
                    have k35 := kv1.trans kv3
                    have HAW35 := Lib.hid (fun (V : World) (hV : Later w35 V) => (HAW0.out V (k35.trans hV.out)).mono (fun e w' h => (⟨h.1, ⟨hV.out.trans h.2⟩⟩ : e = .returned (.bool false) ∧ Later w35 w')))
                    have hr35 : w35.cell? ⟨bw, 2, none⟩ = some (.slice (some ⟨g0, 0, none⟩) n c8) := (k35.cell (World.block_lt_of_cell? wr _ hr12) id).trans hr12
                    have RV2 := Lib.hid rv2
                    have K35 := Lib.hid (KI.out.trans k35)
                    clear rv2 kv2 kv3 kv1 k35 HPE HAW0
                    go_wp2_with (first
                      | (refine wpList_store_row (by rfl) 40 _ _ (by rfl) b27 ZP (by rfl) (by rfl) 40 ZP RV2.out SZP.out rfl OZP.out ?_; rw [hV3])
                      | fail)
                    refine wp_region_class (Later w35) (by kernel_rfl) (by kernel_rfl) (⟨(Keeps.refl _ _).drew⟩) ?_
                    refine class_value (by rfl) (.bool false) (fun V hV => by go_simp) ?_
                    simp only [Act.put, List.setIfInBounds_toArray, List.set_cons_zero, List.set_cons_succ]
                    refine class_value (by rfl) (.bool false) (fun V hV => by go_simp) ?_
                    simp only [Act.put, List.setIfInBounds_toArray, List.set_cons_zero, List.set_cons_succ]
                    refine class_value (by rfl) (.bool false) (fun V hV => by go_simp) ?_
                    simp only [Act.put, List.setIfInBounds_toArray, List.set_cons_zero, List.set_cons_succ]
                    refine class_value (by rfl) (.bool false) (fun V hV => by go_simp) ?_
                    simp only [Act.put, List.setIfInBounds_toArray, List.set_cons_zero, List.set_cons_succ]
                    refine class_value (by rfl) (.bool false) (fun V hV => by go_simp) ?_
                    simp only [Act.put, List.setIfInBounds_toArray, List.set_cons_zero, List.set_cons_succ]
                    refine class_value (by rfl) (.bool false) (fun V hV => by go_simp) ?_
                    simp only [Act.put, List.setIfInBounds_toArray, List.set_cons_zero, List.set_cons_succ]
                    go_big_quiet_skip
                    go_big_quiet_skip
                    go_big_quiet_skip
                    go_big_quiet_skip
                    go_big_quiet_skip
                    go_big_quiet_skip
                    go_big_quiet_skip
                    go_big_quiet_skip
                    go_big_quiet_skip
                    go_big_quiet_skip
                    go_big_quiet_skip
                    go_big_quiet_skip
                    go_big_quiet_skip
                    go_big_quiet_skip
                    go_big_quiet_skip
                    go_big_quiet_skip
                    go_big_quiet_skip
                    go_big_quiet_skip
                    go_big_quiet_skip
                    go_big_quiet_skip
                    go_big_quiet_skip
                    go_big_quiet_skip
                    go_big_quiet_skip
                    go_big_quiet_skip
                    go_big_quiet_skip
                    go_big_quiet_skip
                    go_big_quiet_skip
                    go_big_quiet_skip
                    go_big_quiet_skip
                    refine class_value (by rfl) (.bool false) (fun V hV => by go_simp) ?_
                    simp only [Act.put, List.setIfInBounds_toArray, List.set_cons_zero, List.set_cons_succ]
                    refine class_value (by rfl) (.bool false) (fun V hV => by go_simp) ?_
                    simp only [Act.put, List.setIfInBounds_toArray, List.set_cons_zero, List.set_cons_succ]
                    refine class_value (by rfl) (.bool false) (fun V hV => by go_simp) ?_
                    simp only [Act.put, List.setIfInBounds_toArray, List.set_cons_zero, List.set_cons_succ]
                    refine class_value (by rfl) (.bool false) (fun V hV => by go_simp) ?_
                    simp only [Act.put, List.setIfInBounds_toArray, List.set_cons_zero, List.set_cons_succ]
                    refine class_value (by rfl) (.bool true) (fun V hV => by go_simp) ?_
                    simp only [Act.put, List.setIfInBounds_toArray, List.set_cons_zero, List.set_cons_succ]
                    refine class_value (by rfl) (.bool true) (fun V hV => by go_simp) ?_
                    simp only [Act.put, List.setIfInBounds_toArray, List.set_cons_zero, List.set_cons_succ]
                    refine class_value (by rfl) (.pointer (some ⟨g, 0, none⟩)) (fun V hV => by go_simp) ?_
                    simp only [Act.put, List.setIfInBounds_toArray, List.set_cons_zero, List.set_cons_succ]
                    refine class_value (by rfl) (.int .i64 (-1)) (fun V hV => by go_simp) ?_
                    simp only [Act.put, List.setIfInBounds_toArray, List.set_cons_zero, List.set_cons_succ]
                    refine class_callW (by rfl) _ _ (.bool false) (fun _ => by go_simp) (fun V hV => HAW35.out V hV) ?_
                    simp only [Act.put, List.setIfInBounds_toArray, List.set_cons_zero, List.set_cons_succ]
                    refine class_value (by rfl) (.bool false) (fun V hV => by go_simp) ?_
                    simp only [Act.put, List.setIfInBounds_toArray, List.set_cons_zero, List.set_cons_succ]
                    refine class_value (by rfl) (.bool false) (fun V hV => by go_simp) ?_
                    simp only [Act.put, List.setIfInBounds_toArray, List.set_cons_zero, List.set_cons_succ]
                    refine wpQuiet_nil ?_
                    intro w37 k37
                    have K37 := Lib.hid (K35.out.trans k37.out)
                    clear k37
                    go_wp2
                    go_roundw
                    case rel => exact ⟨(-1) + 1, by omega, by omega, by go_num, K37⟩
                    case measure => first | (simp [intOf]; done) | (simp [intOf]; omega)
                  · subst hke
                    clear hpe haw hin hk1 hk2 hkn
                    go_wp2_with fail
                    refine HPE.out.mono ?_
                    rintro e v1 ⟨rfl, kv1⟩
                    obtain ⟨b27, hb27⟩ : ∃ x, v1.heap.size = x := ⟨_, rfl⟩
                    obtain ⟨V2, hV2⟩ : ∃ V, v1.alloc (.cells ZP 40) = V := ⟨_, rfl⟩
                    have rv2 : V2.heap[b27]? = some (.cells ZP 40 (0, 0)) := by rw [← hV2, ← hb27]; exact heap_alloc_new v1 _
                    have kv2 : Keeps (fun _ => False) v1 V2 := by rw [← hV2]; exact (Keeps.refl _ _).alloc _
                    obtain ⟨w35, hV3⟩ : ∃ V, V2.setRow b27 ZP = V := ⟨_, rfl⟩
                    have kv3 : Keeps (fun _ => False) v1 w35 := kv2.trans' (T := fun k => k = b27) (by rw [← hV3]; exact Keeps.setRow _ _) (fun i hi e => by omega)
                    have k35 := kv1.trans kv3
                    have HAW35 := Lib.hid (fun (V : World) (hV : Later w35 V) => (HAW0.out V (k35.trans hV.out)).mono (fun e w' h => (⟨h.1, ⟨hV.out.trans h.2⟩⟩ : e = .returned (.bool false) ∧ Later w35 w')))
                    have hr35 : w35.cell? ⟨bw, 2, none⟩ = some (.slice (some ⟨g0, 0, none⟩) n c8) := (k35.cell (World.block_lt_of_cell? wr _ hr12) id).trans hr12
                    have RV2 := Lib.hid rv2
                    have K35 := Lib.hid (KI.out.trans k35)
                    clear rv2 kv2 kv3 kv1 k35 HPE HAW0
                    go_wp2_with (first
                      | (refine wpList_store_row (by rfl) 40 _ _ (by rfl) b27 ZP (by rfl) (by rfl) 40 ZP RV2.out SZP.out rfl OZP.out ?_; rw [hV3])
                      | fail)
                    refine wp_region_class (Later w35) (by kernel_rfl) (by kernel_rfl) (⟨(Keeps.refl _ _).drew⟩) ?_
                    refine class_value (by rfl) (.bool false) (fun V hV => by go_simp) ?_
                    simp only [Act.put, List.setIfInBounds_toArray, List.set_cons_zero, List.set_cons_succ]
                    refine class_value (by rfl) (.bool false) (fun V hV => by go_simp) ?_
                    simp only [Act.put, List.setIfInBounds_toArray, List.set_cons_zero, List.set_cons_succ]
                    refine class_value (by rfl) (.bool false) (fun V hV => by go_simp) ?_
                    simp only [Act.put, List.setIfInBounds_toArray, List.set_cons_zero, List.set_cons_succ]
                    refine class_value (by rfl) (.bool false) (fun V hV => by go_simp) ?_
                    simp only [Act.put, List.setIfInBounds_toArray, List.set_cons_zero, List.set_cons_succ]
                    refine class_value (by rfl) (.bool false) (fun V hV => by go_simp) ?_
                    simp only [Act.put, List.setIfInBounds_toArray, List.set_cons_zero, List.set_cons_succ]
                    refine class_value (by rfl) (.bool false) (fun V hV => by go_simp) ?_
                    simp only [Act.put, List.setIfInBounds_toArray, List.set_cons_zero, List.set_cons_succ]
                    go_big_quiet_skip
                    go_big_quiet_skip
                    go_big_quiet_skip
                    go_big_quiet_skip
                    go_big_quiet_skip
                    go_big_quiet_skip
                    go_big_quiet_skip
                    go_big_quiet_skip
                    go_big_quiet_skip
                    go_big_quiet_skip
                    go_big_quiet_skip
                    go_big_quiet_skip
                    go_big_quiet_skip
                    go_big_quiet_skip
                    go_big_quiet_skip
                    go_big_quiet_skip
                    go_big_quiet_skip
                    go_big_quiet_skip
                    go_big_quiet_skip
                    go_big_quiet_skip
                    go_big_quiet_skip
                    go_big_quiet_skip
                    go_big_quiet_skip
                    go_big_quiet_skip
                    go_big_quiet_skip
                    go_big_quiet_skip
                    go_big_quiet_skip
                    go_big_quiet_skip
                    go_big_quiet_skip
                    refine class_value (by rfl) (.bool false) (fun V hV => by go_simp) ?_
                    simp only [Act.put, List.setIfInBounds_toArray, List.set_cons_zero, List.set_cons_succ]
                    refine class_value (by rfl) (.bool false) (fun V hV => by go_simp) ?_
                    simp only [Act.put, List.setIfInBounds_toArray, List.set_cons_zero, List.set_cons_succ]
                    refine class_value (by rfl) (.bool false) (fun V hV => by go_simp) ?_
                    simp only [Act.put, List.setIfInBounds_toArray, List.set_cons_zero, List.set_cons_succ]
                    refine class_value (by rfl) (.bool false) (fun V hV => by go_simp) ?_
                    simp only [Act.put, List.setIfInBounds_toArray, List.set_cons_zero, List.set_cons_succ]
                    refine class_value (by rfl) (.bool true) (fun V hV => by go_simp) ?_
                    simp only [Act.put, List.setIfInBounds_toArray, List.set_cons_zero, List.set_cons_succ]
                    refine class_value (by rfl) (.bool true) (fun V hV => by go_simp) ?_
                    simp only [Act.put, List.setIfInBounds_toArray, List.set_cons_zero, List.set_cons_succ]
                    refine class_value (by rfl) (.pointer (some ⟨g, 0, none⟩)) (fun V hV => by go_simp) ?_
                    simp only [Act.put, List.setIfInBounds_toArray, List.set_cons_zero, List.set_cons_succ]
                    refine class_value (by rfl) (.int .i64 (n : Int)) (fun V hV => by go_simp) ?_
                    simp only [Act.put, List.setIfInBounds_toArray, List.set_cons_zero, List.set_cons_succ]
                    refine class_callW (by rfl) _ _ (.bool false) (fun _ => by go_simp) (fun V hV => HAW35.out V hV) ?_
                    simp only [Act.put, List.setIfInBounds_toArray, List.set_cons_zero, List.set_cons_succ]
                    refine class_value (by rfl) (.bool false) (fun V hV => by go_simp) ?_
                    simp only [Act.put, List.setIfInBounds_toArray, List.set_cons_zero, List.set_cons_succ]
                    refine class_value (by rfl) (.bool false) (fun V hV => by go_simp) ?_
                    simp only [Act.put, List.setIfInBounds_toArray, List.set_cons_zero, List.set_cons_succ]
                    refine wpQuiet_nil ?_
                    intro w37 k37
                    have K37 := Lib.hid (K35.out.trans k37.out)
                    clear k37
                    go_wp2
                    go_roundw
                    case rel => exact ⟨(n : Int) + 1, by omega, by omega, by go_num, K37⟩
                    case measure => first | (simp [intOf]; done) | (simp [intOf]; omega)
              · obtain rfl : kk = (n : Int) + 1 := by omega
                have hd0 : ¬ (n : Int) + 1 ≤ (n : Int) := by omega
                clear hk1 hk2 hkn
                go_wp2
                go_roundw
                case rel => exact ⟨i + 1, s1, some ⟨g0, 0, none⟩, c8, by have := HII.out; omega, by have := HII.out; omega, by go_num, Lib.hid (TTu.out.later KI.out), Lib.hid ((show RfAt wu bw s1 (some ⟨g0, 0, none⟩) c8 from ⟨by rw [HNN.out.1]; exact HRR.out.1, by rw [HNN.out.1]; exact HRR.out.2⟩).later KI.out), Lib.hid (KWu.out.trans KI.out)⟩
                case measure => first | (simp [intOf]; done) | (simp [intOf]; omega)
      · obtain rfl : i = 60 := by omega
        have KWR := K
        as_aux_lemma =>
          go_wp2_with fail
          refine (peer_none 0 wr).mono ?_
          rintro e v1 ⟨rfl, kv1⟩
          obtain ⟨b31, hb31⟩ : ∃ x, v1.heap.size = x := ⟨_, rfl⟩
          obtain ⟨V2, hV2⟩ : ∃ V, v1.alloc (.cells ZP 40) = V := ⟨_, rfl⟩
          have rv2 : V2.heap[b31]? = some (.cells ZP 40 (0, 0)) := by rw [← hV2, ← hb31]; exact heap_alloc_new v1 _
          have kv2 : Keeps (fun _ => False) v1 V2 := by rw [← hV2]; exact (Keeps.refl _ _).alloc _
          obtain ⟨v3, hV3⟩ : ∃ V, V2.setRow b31 ZP = V := ⟨_, rfl⟩
          have kv3 : Keeps (fun _ => False) v1 v3 := kv2.trans' (T := fun k => k = b31) (by rw [← hV3]; exact Keeps.setRow _ _) (fun i hi e => by omega)
          have KV3 := Lib.hid (KWR.out.trans (kv1.trans kv3))
          have RV2 := Lib.hid rv2
          rw [HZP.out]
          clear kv1 rv2 kv2 kv3
          go_wp2_with (first
            | (refine wpList_store_row (by rfl) 40 (.tmp 31) (.tmp 222) (by rfl) b31 ZP (by rfl) (by rfl) 40 ZP RV2.out SZP.out rfl OZP.out ?_; rw [hV3])
            | fail)
          refine (blame_none v3 0 1).mono ?_
          rintro e v4 ⟨rfl, k4⟩
          go_wp2_with fail
          refine (taway_none v4 0).mono ?_
          rintro e v5 ⟨rfl, k5⟩
          go_wp2_with fail
          refine (tick_none v5).mono ?_
          rintro e v6 ⟨rfl, k6⟩
          go_wp2_with fail
          refine (open_none v6).mono ?_
          rintro e v7 ⟨rfl, k7⟩
          have hsn := set_none v7 0 (0, 0)
          rw [HZP.out] at hsn
          have HSN := Lib.hid hsn
          have KV7 := Lib.hid (KV3.out.trans (k4.trans (k5.trans (k6.trans k7))))
          clear hsn k4 k5 k6 k7
          go_wp2_with (first
            | (refine wpList_made_w13 (by rfl) 40 [] (by rfl) [] (by rfl) (.agg ZP) HBZ.out ?_)
            | fail)
          refine HSN.out.mono ?_
          rintro e v8 ⟨rfl, k8⟩
          have KV8 := Lib.hid (KV7.out.trans k8)
          clear k8
          go_wp2
          go_ret
          exact ⟨rfl, KV8.out⟩
    · obtain rfl : i = len := by omega
      have KWR := K
      as_aux_lemma =>
        go_wp2_with fail
        refine (peer_none 0 wr).mono ?_
        rintro e v1 ⟨rfl, kv1⟩
        obtain ⟨b31, hb31⟩ : ∃ x, v1.heap.size = x := ⟨_, rfl⟩
        obtain ⟨V2, hV2⟩ : ∃ V, v1.alloc (.cells ZP 40) = V := ⟨_, rfl⟩
        have rv2 : V2.heap[b31]? = some (.cells ZP 40 (0, 0)) := by rw [← hV2, ← hb31]; exact heap_alloc_new v1 _
        have kv2 : Keeps (fun _ => False) v1 V2 := by rw [← hV2]; exact (Keeps.refl _ _).alloc _
        obtain ⟨v3, hV3⟩ : ∃ V, V2.setRow b31 ZP = V := ⟨_, rfl⟩
        have kv3 : Keeps (fun _ => False) v1 v3 := kv2.trans' (T := fun k => k = b31) (by rw [← hV3]; exact Keeps.setRow _ _) (fun i hi e => by omega)
        have KV3 := Lib.hid (KWR.out.trans (kv1.trans kv3))
        have RV2 := Lib.hid rv2
        rw [HZP.out]
        clear kv1 rv2 kv2 kv3
        go_wp2_with (first
          | (refine wpList_store_row (by rfl) 40 (.tmp 31) (.tmp 222) (by rfl) b31 ZP (by rfl) (by rfl) 40 ZP RV2.out SZP.out rfl OZP.out ?_; rw [hV3])
          | fail)
        refine (blame_none v3 0 1).mono ?_
        rintro e v4 ⟨rfl, k4⟩
        go_wp2_with fail
        refine (taway_none v4 0).mono ?_
        rintro e v5 ⟨rfl, k5⟩
        go_wp2_with fail
        refine (tick_none v5).mono ?_
        rintro e v6 ⟨rfl, k6⟩
        go_wp2_with fail
        refine (open_none v6).mono ?_
        rintro e v7 ⟨rfl, k7⟩
        have hsn := set_none v7 0 (0, 0)
        rw [HZP.out] at hsn
        have HSN := Lib.hid hsn
        have KV7 := Lib.hid (KV3.out.trans (k4.trans (k5.trans (k6.trans k7))))
        clear hsn k4 k5 k6 k7
        go_wp2_with (first
          | (refine wpList_made_w13 (by rfl) 40 [] (by rfl) [] (by rfl) (.agg ZP) HBZ.out ?_)
          | fail)
        refine HSN.out.mono ?_
        rintro e v8 ⟨rfl, k8⟩
        have KV8 := Lib.hid (KV7.out.trans k8)
        clear k8
        go_wp2
        go_ret
        exact ⟨rfl, KV8.out⟩
end Go.Proofs.Ytdihkbkcefjeoaa
