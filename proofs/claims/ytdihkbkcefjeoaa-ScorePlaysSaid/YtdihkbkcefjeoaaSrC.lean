/-
  The document's own table: one is set; whoever is blamed, or set.
-/
import Derived.Test.YtdihkbkcefjeoaaSrB
namespace Go.Proofs.Ytdihkbkcefjeoaa
open Go.RowKit Go.BigFrame
set_option linter.unusedVariables false
set_option linter.unusedSimpArgs false

theorem rblame_any (A : Option Addr) (n c : Nat) (s : Sc.Tb) (k m : Int) (w : World) (ok : Sc.Ok s) (hn : s.ps.length = n) (hg : w.ownsRow 0 42 2 (.slice A n c) n (pcells s.ps)) :
    Calls Try.prog 11 #[.agg (tcs s.limit s.hold A n c), .int .i64 k, .int .i64 m] w fun e w' => ∃ A' c', e = .returned (.tuple #[.agg (tcs s.limit s.hold A' n c'), .bool (Sc.hit s k m)]) ∧ w'.ownsRow 0 42 2 (.slice A' n c') n (pcells (Sc.blame s k m).ps) ∧ Keeps (fun _ => False) w w' := by
  have hn1 := ok.many
  have hli := ok.limit
  rw [hn] at hn1
  cases hm : Sc.may s k m with
  | false =>
    have hh : Sc.hit s k m = false := by unfold Sc.hit; rw [hm]; rfl
    have hb : Sc.blame s k m = s := by unfold Sc.blame; rw [if_neg (by rw [hm]; decide)]
    rw [hh, hb]
    have hfin : Calls Try.prog 11 #[.agg (tcs s.limit s.hold A n c), .int .i64 k, .int .i64 m] w (fun e w' => e = .returned (.tuple #[.agg (tcs s.limit s.hold A n c), .bool false]) ∧ Keeps (fun _ => False) w w') := by
      by_cases h0 : k < 0
      · exact rblame_low _ _ A n c s.ps k m w hg h0
      · by_cases h1 : (n : Int) ≤ k
        · exact rblame_high _ _ A n c s.ps k m w hg h1 hn1.1
        · have hin : 0 ≤ k ∧ k < (s.ps.length : Int) := by omega
          have hp : s.ps[k.toNat]? = some (Sc.get s k) := by
            unfold Sc.get
            rw [if_pos hin, List.getD_eq_getElem?_getD, List.getElem?_eq_getElem (by omega)]
            rfl
          by_cases h2 : 0 < (Sc.get s k).2
          · exact rblame_away _ _ A n c s.ps k m w hg _ (by omega) (by omega) hp h2
          · refine rblame_few _ _ A n c s.ps k m w hg _ (by omega) (by omega) hp h2 ?_
            refine Int.lt_of_not_ge fun h3 => of_decide_eq_false hm ⟨hin, by omega, by omega⟩
    refine hfin.mono ?_
    rintro e w' ⟨h1, h2⟩
    exact ⟨A, c, h1, h2.owns hg (fun _ _ => id), h2⟩
  | true =>
    obtain ⟨hin, hy, h1⟩ := of_decide_eq_true hm
    obtain ⟨k, rfl⟩ := Int.eq_ofNat_of_zero_le hin.1
    have hp : s.ps[k]? = some (Sc.get s (k : Int)) := by
      rw [Sc.get_D (by omega), List.getD_eq_getElem?_getD, List.getElem?_eq_getElem (by omega)]
      rfl
    have hpt := ok.pts _ (List.mem_of_getElem? hp)
    have hb : Sc.blame s (k : Int) m = if s.limit - (Sc.get s (k : Int)).1 ≤ m then { s with ps := s.ps.set k (s.limit / 2, s.hold) } else { s with ps := s.ps.set k ((Sc.get s (k : Int)).1 + m, 0) } := by
      unfold Sc.blame
      rw [if_pos hm]
      rfl
    have hh : Sc.hit s (k : Int) m = decide (s.limit - (Sc.get s (k : Int)).1 ≤ m) := by unfold Sc.hit; rw [hm]; rfl
    obtain ⟨p, hpe⟩ : ∃ p, Sc.get s (k : Int) = p := ⟨_, rfl⟩
    rw [hpe] at hp hpt hb hh hy
    obtain ⟨x, y⟩ := p
    dsimp only at hb hh hy hpt
    by_cases h2 : s.limit - x ≤ m
    · rw [if_pos h2] at hb
      rw [hb, hh, decide_eq_true h2]
      by_cases h3 : 2000 < m
      · refine (rblame_over s.limit s.hold A n c s.ps k m x y w hg (by omega) hn1.2 hp (by omega) h1 hpt hli h3).mono ?_
        rintro e w' ⟨A', c', h4, h5, h6⟩
        exact ⟨A', c', h4, own_base h5 (Nat.zero_le _), h6⟩
      · refine (rblame_hit s.limit s.hold A n c s.ps k m x y w hg (by omega) hn1.2 hp (by omega) h1 hpt hli (by omega) (by omega)).mono ?_
        rintro e w' ⟨A', c', h4, h5, h6⟩
        exact ⟨A', c', h4, own_base h5 (Nat.zero_le _), h6⟩
    · rw [if_neg h2] at hb
      rw [hb, hh, decide_eq_false h2]
      refine (rblame_more s.limit s.hold A n c s.ps k m x y w hg (by omega) hn1.2 hp (by omega) h1 hpt hli (by omega)).mono ?_
      rintro e w' ⟨A', c', h4, h5, h6⟩
      exact ⟨A', c', h4, own_base h5 (Nat.zero_le _), h6⟩
set_option maxRecDepth 100000 in
set_option maxHeartbeats 2000000 in
theorem rset_low (L H : Int) (A : Option Addr) (n c : Nat) (ps : List (Int × Int)) (k x y : Int) (w : World) (hg : w.ownsRow 0 42 2 (.slice A n c) n (pcells ps)) (hn1 : 1 ≤ n) (h : k < 0) :
    Calls Try.prog 13 #[.agg (tcs L H A n c), .int .i64 k, .agg #[.int .i64 x, .int .i64 y]] w fun e w' => e = .returned (.tuple #[.agg (tcs L H A n c), .int .i64 1]) ∧ Keeps (fun _ => False) w w' := by

  obtain ⟨ZT, hZT⟩ : ∃ Z, tcs 0 0 none 0 0 = Z := ⟨_, rfl⟩
  have hzt : ∀ V : World, (zeroValue 30).run Try.prog V = .ok (.agg ZT) V := fun V => by rw [← hZT]; exact zero_T V
  obtain ⟨TC, hTC⟩ : ∃ C, tcs L H A n c = C := ⟨_, rfl⟩
  have STC : Hid ((Try.prog.info? 30).map (·.size) = some TC.size) := Lib.hid (by rw [← hTC]; exact size_T)
  have NZT : Hid (ZT.size = 3) := Lib.hid (by rw [← hZT]; rfl)
  have NTC : Hid (ZT.size = TC.size) := Lib.hid (by rw [← hZT, ← hTC]; rfl)
  have OTC : Hid (TC.all (·.oneCell') = true) := Lib.hid (by rw [← hTC]; exact tcs_one _ _ _ _ _)
  obtain ⟨b3, hb3⟩ : ∃ x, w.heap.size = x := ⟨_, rfl⟩
  obtain ⟨W1, hW1⟩ : ∃ V, w.alloc (.cells TC 30) = V := ⟨_, rfl⟩
  have k1 : Keeps (fun _ => False) w W1 := by rw [← hW1]; exact (Keeps.refl _ _).alloc _
  have r1 : Row W1 b3 30 [.int .i64 L, .int .i64 H, .slice A n c] := by rw [← hW1, ← hb3, ← hTC]; exact heap_alloc_new w _
  obtain ⟨b5, hb5⟩ : ∃ x, W1.heap.size = x := ⟨_, rfl⟩
  obtain ⟨W2, hW2⟩ : ∃ V, W1.alloc (.cells #[.int .i64 x, .int .i64 y] 42) = V := ⟨_, rfl⟩
  have k2 : Keeps (fun _ => False) W1 W2 := by rw [← hW2]; exact (Keeps.refl _ _).alloc _
  have r2 : Row W2 b5 42 [.int .i64 x, .int .i64 y] := by rw [← hW2, ← hb5]; exact heap_alloc_new W1 _
  obtain ⟨b6, hb6⟩ : ∃ x, W2.heap.size = x := ⟨_, rfl⟩
  obtain ⟨W3, hW3⟩ : ∃ V, W2.alloc (.cells ZT 30) = V := ⟨_, rfl⟩
  have k3 : Keeps (fun _ => False) W2 W3 := by rw [← hW3]; exact (Keeps.refl _ _).alloc _
  have r13 := r1.keeps (k2.trans k3) id
  have r3 : W3.heap[b6]? = some (.cells ZT 30 (0, 0)) := by rw [← hW3, ← hb6]; exact heap_alloc_new W2 _
  have r25 := r2.keeps k3 id
  have c50 : W3.cell? ⟨b5, 0, none⟩ = some (.int .i64 x) := r25.cell 0
  have c51 : W3.cell? ⟨b5, 1, none⟩ = some (.int .i64 y) := r25.cell 1
  have c30 : W3.cell? ⟨b3, 0, none⟩ = some (.int .i64 L) := r13.cell 0
  have c31 : W3.cell? ⟨b3, 1, none⟩ = some (.int .i64 H) := r13.cell 1
  have c32 : W3.cell? ⟨b3, 2, none⟩ = some (.slice A n c) := r13.cell 2
  have hbb : w.heap.size ≤ b3 ∧ b3 < b6 ∧ b6 < W3.heap.size := by
    have h1 := (Array.getElem?_eq_some_iff.1 r3).1
    have h2 := (r1.keeps k2 id).lt
    omega
  have K3 := Lib.hid ((k1.trans k2).trans k3)
  have HG3 := Lib.hid (((k1.trans k2).trans k3).owns hg (fun _ _ => id))
  have HG := Lib.hid hg
  have R13 : Hid (W3.heap[b3]? = some (.cells TC 30 (0, 0))) := Lib.hid (by rw [← hTC]; exact r13)
  have R3 := Lib.hid r3
  have HBB := Lib.hid hbb
  have HTC := Lib.hid hTC
  have hr30 : Row W3 b6 30 [.int .i64 0, .int .i64 0, .slice none 0 0] := by
    have h := r3
    rw [← hZT] at h
    exact h
  have c60 : W3.cell? ⟨b6, 0, none⟩ = some (.int .i64 0) := hr30.cell 0
  have c61 : W3.cell? ⟨b6, 1, none⟩ = some (.int .i64 0) := hr30.cell 1
  have c62 : W3.cell? ⟨b6, 2, none⟩ = some (.slice none 0 0) := hr30.cell 2
  have f60 := hr30.frozen 0
  have f61 := hr30.frozen 1
  have f62 := hr30.frozen 2
  obtain ⟨w7, hw7⟩ : ∃ V, ((W3.setCell ⟨b6, 0, none⟩ (.int .i64 L)).setCell ⟨b6, 1, none⟩ (.int .i64 H)).setCell ⟨b6, 2, none⟩ (.slice A n c) = V := ⟨_, rfl⟩
  have hr7 : Row w7 b6 30 [.int .i64 L, .int .i64 H, .slice A n c] := by
    rw [← hw7]
    exact ((hr30.set 0 (.int .i64 L)).set 1 (.int .i64 H)).set 2 (.slice A n c)
  have R7 : Hid (w7.heap[b6]? = some (.cells TC 30 (0, 0))) := Lib.hid (by rw [← hTC]; exact hr7)
  have K7 : Hid (Keeps (fun _ => False) w w7) := Lib.hid (K3.out.trans' (T := fun k => k = b6) (by rw [← hw7]; exact (((Keeps.refl (fun k => k = b6) W3).setCell (p := ⟨b6, 0, none⟩) (fun _ => rfl) _).setCell (p := ⟨b6, 1, none⟩) (fun _ => rfl) _).setCell (p := ⟨b6, 2, none⟩) (fun _ => rfl) _) (fun j hj e => by omega))
  have HG7 := Lib.hid (K7.out.owns hg (fun _ _ => id))
  rw [hTC]
  clear r2 r25 hg hZT hTC k1 k2 k3 r1 r13 r3 hbb hr30 hr7
  have d1 : decide (k < 0) = true := decide_eq_true h
  clear h
  go_enter Try.func13, Try.ntmps13
  go_wp2
  refine bodyPost_ret (results_cell_tmp13 rfl _ _ b6 30 TC (0, 0) _ rfl (by first | exact R7.out | (rw [hw7]; exact R7.out)) Try.underlying30 rfl STC.out) rfl ?_
  exact ⟨rfl, by first | exact K7.out | (rw [hw7]; exact K7.out)⟩
set_option maxRecDepth 100000 in
set_option maxHeartbeats 2000000 in
theorem rset_high (L H : Int) (A : Option Addr) (n c : Nat) (ps : List (Int × Int)) (k x y : Int) (w : World) (hg : w.ownsRow 0 42 2 (.slice A n c) n (pcells ps)) (hn1 : 1 ≤ n) (h : (n : Int) ≤ k) :
    Calls Try.prog 13 #[.agg (tcs L H A n c), .int .i64 k, .agg #[.int .i64 x, .int .i64 y]] w fun e w' => e = .returned (.tuple #[.agg (tcs L H A n c), .int .i64 1]) ∧ Keeps (fun _ => False) w w' := by
  obtain ⟨g0, rfl⟩ := own_some13 hg (by omega)
  obtain ⟨k, rfl⟩ := Int.eq_ofNat_of_zero_le (show 0 ≤ k by omega)
  obtain ⟨ZT, hZT⟩ : ∃ Z, tcs 0 0 none 0 0 = Z := ⟨_, rfl⟩
  have hzt : ∀ V : World, (zeroValue 30).run Try.prog V = .ok (.agg ZT) V := fun V => by rw [← hZT]; exact zero_T V
  obtain ⟨TC, hTC⟩ : ∃ C, tcs L H (some ⟨g0, 0, none⟩) n c = C := ⟨_, rfl⟩
  have STC : Hid ((Try.prog.info? 30).map (·.size) = some TC.size) := Lib.hid (by rw [← hTC]; exact size_T)
  have NZT : Hid (ZT.size = 3) := Lib.hid (by rw [← hZT]; rfl)
  have NTC : Hid (ZT.size = TC.size) := Lib.hid (by rw [← hZT, ← hTC]; rfl)
  have OTC : Hid (TC.all (·.oneCell') = true) := Lib.hid (by rw [← hTC]; exact tcs_one _ _ _ _ _)
  obtain ⟨b3, hb3⟩ : ∃ x, w.heap.size = x := ⟨_, rfl⟩
  obtain ⟨W1, hW1⟩ : ∃ V, w.alloc (.cells TC 30) = V := ⟨_, rfl⟩
  have k1 : Keeps (fun _ => False) w W1 := by rw [← hW1]; exact (Keeps.refl _ _).alloc _
  have r1 : Row W1 b3 30 [.int .i64 L, .int .i64 H, .slice (some ⟨g0, 0, none⟩) n c] := by rw [← hW1, ← hb3, ← hTC]; exact heap_alloc_new w _
  obtain ⟨b5, hb5⟩ : ∃ x, W1.heap.size = x := ⟨_, rfl⟩
  obtain ⟨W2, hW2⟩ : ∃ V, W1.alloc (.cells #[.int .i64 x, .int .i64 y] 42) = V := ⟨_, rfl⟩
  have k2 : Keeps (fun _ => False) W1 W2 := by rw [← hW2]; exact (Keeps.refl _ _).alloc _
  have r2 : Row W2 b5 42 [.int .i64 x, .int .i64 y] := by rw [← hW2, ← hb5]; exact heap_alloc_new W1 _
  obtain ⟨b6, hb6⟩ : ∃ x, W2.heap.size = x := ⟨_, rfl⟩
  obtain ⟨W3, hW3⟩ : ∃ V, W2.alloc (.cells ZT 30) = V := ⟨_, rfl⟩
  have k3 : Keeps (fun _ => False) W2 W3 := by rw [← hW3]; exact (Keeps.refl _ _).alloc _
  have r13 := r1.keeps (k2.trans k3) id
  have r3 : W3.heap[b6]? = some (.cells ZT 30 (0, 0)) := by rw [← hW3, ← hb6]; exact heap_alloc_new W2 _
  have r25 := r2.keeps k3 id
  have c50 : W3.cell? ⟨b5, 0, none⟩ = some (.int .i64 x) := r25.cell 0
  have c51 : W3.cell? ⟨b5, 1, none⟩ = some (.int .i64 y) := r25.cell 1
  have c30 : W3.cell? ⟨b3, 0, none⟩ = some (.int .i64 L) := r13.cell 0
  have c31 : W3.cell? ⟨b3, 1, none⟩ = some (.int .i64 H) := r13.cell 1
  have c32 : W3.cell? ⟨b3, 2, none⟩ = some (.slice (some ⟨g0, 0, none⟩) n c) := r13.cell 2
  have hbb : w.heap.size ≤ b3 ∧ b3 < b6 ∧ b6 < W3.heap.size := by
    have h1 := (Array.getElem?_eq_some_iff.1 r3).1
    have h2 := (r1.keeps k2 id).lt
    omega
  have K3 := Lib.hid ((k1.trans k2).trans k3)
  have HG3 := Lib.hid (((k1.trans k2).trans k3).owns hg (fun _ _ => id))
  have HG := Lib.hid hg
  have R13 : Hid (W3.heap[b3]? = some (.cells TC 30 (0, 0))) := Lib.hid (by rw [← hTC]; exact r13)
  have R3 := Lib.hid r3
  have HBB := Lib.hid hbb
  have HTC := Lib.hid hTC
  have hr30 : Row W3 b6 30 [.int .i64 0, .int .i64 0, .slice none 0 0] := by
    have h := r3
    rw [← hZT] at h
    exact h
  have c60 : W3.cell? ⟨b6, 0, none⟩ = some (.int .i64 0) := hr30.cell 0
  have c61 : W3.cell? ⟨b6, 1, none⟩ = some (.int .i64 0) := hr30.cell 1
  have c62 : W3.cell? ⟨b6, 2, none⟩ = some (.slice none 0 0) := hr30.cell 2
  have f60 := hr30.frozen 0
  have f61 := hr30.frozen 1
  have f62 := hr30.frozen 2
  obtain ⟨w7, hw7⟩ : ∃ V, ((W3.setCell ⟨b6, 0, none⟩ (.int .i64 L)).setCell ⟨b6, 1, none⟩ (.int .i64 H)).setCell ⟨b6, 2, none⟩ (.slice (some ⟨g0, 0, none⟩) n c) = V := ⟨_, rfl⟩
  have hr7 : Row w7 b6 30 [.int .i64 L, .int .i64 H, .slice (some ⟨g0, 0, none⟩) n c] := by
    rw [← hw7]
    exact ((hr30.set 0 (.int .i64 L)).set 1 (.int .i64 H)).set 2 (.slice (some ⟨g0, 0, none⟩) n c)
  have R7 : Hid (w7.heap[b6]? = some (.cells TC 30 (0, 0))) := Lib.hid (by rw [← hTC]; exact hr7)
  have K7 : Hid (Keeps (fun _ => False) w w7) := Lib.hid (K3.out.trans' (T := fun k => k = b6) (by rw [← hw7]; exact (((Keeps.refl (fun k => k = b6) W3).setCell (p := ⟨b6, 0, none⟩) (fun _ => rfl) _).setCell (p := ⟨b6, 1, none⟩) (fun _ => rfl) _).setCell (p := ⟨b6, 2, none⟩) (fun _ => rfl) _) (fun j hj e => by omega))
  have HG7 := Lib.hid (K7.out.owns hg (fun _ _ => id))
  rw [hTC]
  clear r2 r25 hg hZT hTC k1 k2 k3 r1 r13 r3 hbb hr30 hr7
  have d2 : (n : Int) ≤ (k : Int) := h
  have d2b : n ≤ k := by omega
  clear h
  go_enter Try.func13, Try.ntmps13
  go_wp2
  refine bodyPost_ret (results_cell_tmp13 rfl _ _ b6 30 TC (0, 0) _ rfl (by first | exact R7.out | (rw [hw7]; exact R7.out)) Try.underlying30 rfl STC.out) rfl ?_
  exact ⟨rfl, by first | exact K7.out | (rw [hw7]; exact K7.out)⟩
set_option maxRecDepth 100000 in
set_option maxHeartbeats 2000000 in
theorem rset_x0 (L H : Int) (A : Option Addr) (n c : Nat) (ps : List (Int × Int)) (k x y : Int) (w : World) (hg : w.ownsRow 0 42 2 (.slice A n c) n (pcells ps)) (hn1 : 1 ≤ n) (hk0 : 0 ≤ k) (hk1 : k < (n : Int)) (h : x < 0) :
    Calls Try.prog 13 #[.agg (tcs L H A n c), .int .i64 k, .agg #[.int .i64 x, .int .i64 y]] w fun e w' => e = .returned (.tuple #[.agg (tcs L H A n c), .int .i64 1]) ∧ Keeps (fun _ => False) w w' := by
  obtain ⟨g0, rfl⟩ := own_some13 hg (by omega)
  obtain ⟨k, rfl⟩ := Int.eq_ofNat_of_zero_le (show 0 ≤ k by omega)
  obtain ⟨ZT, hZT⟩ : ∃ Z, tcs 0 0 none 0 0 = Z := ⟨_, rfl⟩
  have hzt : ∀ V : World, (zeroValue 30).run Try.prog V = .ok (.agg ZT) V := fun V => by rw [← hZT]; exact zero_T V
  obtain ⟨TC, hTC⟩ : ∃ C, tcs L H (some ⟨g0, 0, none⟩) n c = C := ⟨_, rfl⟩
  have STC : Hid ((Try.prog.info? 30).map (·.size) = some TC.size) := Lib.hid (by rw [← hTC]; exact size_T)
  have NZT : Hid (ZT.size = 3) := Lib.hid (by rw [← hZT]; rfl)
  have NTC : Hid (ZT.size = TC.size) := Lib.hid (by rw [← hZT, ← hTC]; rfl)
  have OTC : Hid (TC.all (·.oneCell') = true) := Lib.hid (by rw [← hTC]; exact tcs_one _ _ _ _ _)
  obtain ⟨b3, hb3⟩ : ∃ x, w.heap.size = x := ⟨_, rfl⟩
  obtain ⟨W1, hW1⟩ : ∃ V, w.alloc (.cells TC 30) = V := ⟨_, rfl⟩
  have k1 : Keeps (fun _ => False) w W1 := by rw [← hW1]; exact (Keeps.refl _ _).alloc _
  have r1 : Row W1 b3 30 [.int .i64 L, .int .i64 H, .slice (some ⟨g0, 0, none⟩) n c] := by rw [← hW1, ← hb3, ← hTC]; exact heap_alloc_new w _
  obtain ⟨b5, hb5⟩ : ∃ x, W1.heap.size = x := ⟨_, rfl⟩
  obtain ⟨W2, hW2⟩ : ∃ V, W1.alloc (.cells #[.int .i64 x, .int .i64 y] 42) = V := ⟨_, rfl⟩
  have k2 : Keeps (fun _ => False) W1 W2 := by rw [← hW2]; exact (Keeps.refl _ _).alloc _
  have r2 : Row W2 b5 42 [.int .i64 x, .int .i64 y] := by rw [← hW2, ← hb5]; exact heap_alloc_new W1 _
  obtain ⟨b6, hb6⟩ : ∃ x, W2.heap.size = x := ⟨_, rfl⟩
  obtain ⟨W3, hW3⟩ : ∃ V, W2.alloc (.cells ZT 30) = V := ⟨_, rfl⟩
  have k3 : Keeps (fun _ => False) W2 W3 := by rw [← hW3]; exact (Keeps.refl _ _).alloc _
  have r13 := r1.keeps (k2.trans k3) id
  have r3 : W3.heap[b6]? = some (.cells ZT 30 (0, 0)) := by rw [← hW3, ← hb6]; exact heap_alloc_new W2 _
  have r25 := r2.keeps k3 id
  have c50 : W3.cell? ⟨b5, 0, none⟩ = some (.int .i64 x) := r25.cell 0
  have c51 : W3.cell? ⟨b5, 1, none⟩ = some (.int .i64 y) := r25.cell 1
  have c30 : W3.cell? ⟨b3, 0, none⟩ = some (.int .i64 L) := r13.cell 0
  have c31 : W3.cell? ⟨b3, 1, none⟩ = some (.int .i64 H) := r13.cell 1
  have c32 : W3.cell? ⟨b3, 2, none⟩ = some (.slice (some ⟨g0, 0, none⟩) n c) := r13.cell 2
  have hbb : w.heap.size ≤ b3 ∧ b3 < b6 ∧ b6 < W3.heap.size := by
    have h1 := (Array.getElem?_eq_some_iff.1 r3).1
    have h2 := (r1.keeps k2 id).lt
    omega
  have K3 := Lib.hid ((k1.trans k2).trans k3)
  have HG3 := Lib.hid (((k1.trans k2).trans k3).owns hg (fun _ _ => id))
  have HG := Lib.hid hg
  have R13 : Hid (W3.heap[b3]? = some (.cells TC 30 (0, 0))) := Lib.hid (by rw [← hTC]; exact r13)
  have R3 := Lib.hid r3
  have HBB := Lib.hid hbb
  have HTC := Lib.hid hTC
  have hr30 : Row W3 b6 30 [.int .i64 0, .int .i64 0, .slice none 0 0] := by
    have h := r3
    rw [← hZT] at h
    exact h
  have c60 : W3.cell? ⟨b6, 0, none⟩ = some (.int .i64 0) := hr30.cell 0
  have c61 : W3.cell? ⟨b6, 1, none⟩ = some (.int .i64 0) := hr30.cell 1
  have c62 : W3.cell? ⟨b6, 2, none⟩ = some (.slice none 0 0) := hr30.cell 2
  have f60 := hr30.frozen 0
  have f61 := hr30.frozen 1
  have f62 := hr30.frozen 2
  obtain ⟨w7, hw7⟩ : ∃ V, ((W3.setCell ⟨b6, 0, none⟩ (.int .i64 L)).setCell ⟨b6, 1, none⟩ (.int .i64 H)).setCell ⟨b6, 2, none⟩ (.slice (some ⟨g0, 0, none⟩) n c) = V := ⟨_, rfl⟩
  have hr7 : Row w7 b6 30 [.int .i64 L, .int .i64 H, .slice (some ⟨g0, 0, none⟩) n c] := by
    rw [← hw7]
    exact ((hr30.set 0 (.int .i64 L)).set 1 (.int .i64 H)).set 2 (.slice (some ⟨g0, 0, none⟩) n c)
  have R7 : Hid (w7.heap[b6]? = some (.cells TC 30 (0, 0))) := Lib.hid (by rw [← hTC]; exact hr7)
  have K7 : Hid (Keeps (fun _ => False) w w7) := Lib.hid (K3.out.trans' (T := fun k => k = b6) (by rw [← hw7]; exact (((Keeps.refl (fun k => k = b6) W3).setCell (p := ⟨b6, 0, none⟩) (fun _ => rfl) _).setCell (p := ⟨b6, 1, none⟩) (fun _ => rfl) _).setCell (p := ⟨b6, 2, none⟩) (fun _ => rfl) _) (fun j hj e => by omega))
  have HG7 := Lib.hid (K7.out.owns hg (fun _ _ => id))
  rw [hTC]
  clear r2 r25 hg hZT hTC k1 k2 k3 r1 r13 r3 hbb hr30 hr7
  have d2 : (k : Int) < (n : Int) := hk1
  have d2b : k < n := by omega
  have d3 : decide (x < 0) = true := decide_eq_true (by omega)
  clear h
  go_enter Try.func13, Try.ntmps13
  go_wp2
  refine bodyPost_ret (results_cell_tmp13 rfl _ _ b6 30 TC (0, 0) _ rfl (by first | exact R7.out | (rw [hw7]; exact R7.out)) Try.underlying30 rfl STC.out) rfl ?_
  exact ⟨rfl, by first | exact K7.out | (rw [hw7]; exact K7.out)⟩
set_option maxRecDepth 100000 in
set_option maxHeartbeats 2000000 in
theorem rset_x1 (L H : Int) (A : Option Addr) (n c : Nat) (ps : List (Int × Int)) (k x y : Int) (w : World) (hg : w.ownsRow 0 42 2 (.slice A n c) n (pcells ps)) (hn1 : 1 ≤ n) (hk0 : 0 ≤ k) (hk1 : k < (n : Int)) (h0 : 0 ≤ x) (h : L ≤ x) :
    Calls Try.prog 13 #[.agg (tcs L H A n c), .int .i64 k, .agg #[.int .i64 x, .int .i64 y]] w fun e w' => e = .returned (.tuple #[.agg (tcs L H A n c), .int .i64 1]) ∧ Keeps (fun _ => False) w w' := by
  obtain ⟨g0, rfl⟩ := own_some13 hg (by omega)
  obtain ⟨k, rfl⟩ := Int.eq_ofNat_of_zero_le (show 0 ≤ k by omega)
  obtain ⟨ZT, hZT⟩ : ∃ Z, tcs 0 0 none 0 0 = Z := ⟨_, rfl⟩
  have hzt : ∀ V : World, (zeroValue 30).run Try.prog V = .ok (.agg ZT) V := fun V => by rw [← hZT]; exact zero_T V
  obtain ⟨TC, hTC⟩ : ∃ C, tcs L H (some ⟨g0, 0, none⟩) n c = C := ⟨_, rfl⟩
  have STC : Hid ((Try.prog.info? 30).map (·.size) = some TC.size) := Lib.hid (by rw [← hTC]; exact size_T)
  have NZT : Hid (ZT.size = 3) := Lib.hid (by rw [← hZT]; rfl)
  have NTC : Hid (ZT.size = TC.size) := Lib.hid (by rw [← hZT, ← hTC]; rfl)
  have OTC : Hid (TC.all (·.oneCell') = true) := Lib.hid (by rw [← hTC]; exact tcs_one _ _ _ _ _)
  obtain ⟨b3, hb3⟩ : ∃ x, w.heap.size = x := ⟨_, rfl⟩
  obtain ⟨W1, hW1⟩ : ∃ V, w.alloc (.cells TC 30) = V := ⟨_, rfl⟩
  have k1 : Keeps (fun _ => False) w W1 := by rw [← hW1]; exact (Keeps.refl _ _).alloc _
  have r1 : Row W1 b3 30 [.int .i64 L, .int .i64 H, .slice (some ⟨g0, 0, none⟩) n c] := by rw [← hW1, ← hb3, ← hTC]; exact heap_alloc_new w _
  obtain ⟨b5, hb5⟩ : ∃ x, W1.heap.size = x := ⟨_, rfl⟩
  obtain ⟨W2, hW2⟩ : ∃ V, W1.alloc (.cells #[.int .i64 x, .int .i64 y] 42) = V := ⟨_, rfl⟩
  have k2 : Keeps (fun _ => False) W1 W2 := by rw [← hW2]; exact (Keeps.refl _ _).alloc _
  have r2 : Row W2 b5 42 [.int .i64 x, .int .i64 y] := by rw [← hW2, ← hb5]; exact heap_alloc_new W1 _
  obtain ⟨b6, hb6⟩ : ∃ x, W2.heap.size = x := ⟨_, rfl⟩
  obtain ⟨W3, hW3⟩ : ∃ V, W2.alloc (.cells ZT 30) = V := ⟨_, rfl⟩
  have k3 : Keeps (fun _ => False) W2 W3 := by rw [← hW3]; exact (Keeps.refl _ _).alloc _
  have r13 := r1.keeps (k2.trans k3) id
  have r3 : W3.heap[b6]? = some (.cells ZT 30 (0, 0)) := by rw [← hW3, ← hb6]; exact heap_alloc_new W2 _
  have r25 := r2.keeps k3 id
  have c50 : W3.cell? ⟨b5, 0, none⟩ = some (.int .i64 x) := r25.cell 0
  have c51 : W3.cell? ⟨b5, 1, none⟩ = some (.int .i64 y) := r25.cell 1
  have c30 : W3.cell? ⟨b3, 0, none⟩ = some (.int .i64 L) := r13.cell 0
  have c31 : W3.cell? ⟨b3, 1, none⟩ = some (.int .i64 H) := r13.cell 1
  have c32 : W3.cell? ⟨b3, 2, none⟩ = some (.slice (some ⟨g0, 0, none⟩) n c) := r13.cell 2
  have hbb : w.heap.size ≤ b3 ∧ b3 < b6 ∧ b6 < W3.heap.size := by
    have h1 := (Array.getElem?_eq_some_iff.1 r3).1
    have h2 := (r1.keeps k2 id).lt
    omega
  have K3 := Lib.hid ((k1.trans k2).trans k3)
  have HG3 := Lib.hid (((k1.trans k2).trans k3).owns hg (fun _ _ => id))
  have HG := Lib.hid hg
  have R13 : Hid (W3.heap[b3]? = some (.cells TC 30 (0, 0))) := Lib.hid (by rw [← hTC]; exact r13)
  have R3 := Lib.hid r3
  have HBB := Lib.hid hbb
  have HTC := Lib.hid hTC
  have hr30 : Row W3 b6 30 [.int .i64 0, .int .i64 0, .slice none 0 0] := by
    have h := r3
    rw [← hZT] at h
    exact h
  have c60 : W3.cell? ⟨b6, 0, none⟩ = some (.int .i64 0) := hr30.cell 0
  have c61 : W3.cell? ⟨b6, 1, none⟩ = some (.int .i64 0) := hr30.cell 1
  have c62 : W3.cell? ⟨b6, 2, none⟩ = some (.slice none 0 0) := hr30.cell 2
  have f60 := hr30.frozen 0
  have f61 := hr30.frozen 1
  have f62 := hr30.frozen 2
  obtain ⟨w7, hw7⟩ : ∃ V, ((W3.setCell ⟨b6, 0, none⟩ (.int .i64 L)).setCell ⟨b6, 1, none⟩ (.int .i64 H)).setCell ⟨b6, 2, none⟩ (.slice (some ⟨g0, 0, none⟩) n c) = V := ⟨_, rfl⟩
  have hr7 : Row w7 b6 30 [.int .i64 L, .int .i64 H, .slice (some ⟨g0, 0, none⟩) n c] := by
    rw [← hw7]
    exact ((hr30.set 0 (.int .i64 L)).set 1 (.int .i64 H)).set 2 (.slice (some ⟨g0, 0, none⟩) n c)
  have R7 : Hid (w7.heap[b6]? = some (.cells TC 30 (0, 0))) := Lib.hid (by rw [← hTC]; exact hr7)
  have K7 : Hid (Keeps (fun _ => False) w w7) := Lib.hid (K3.out.trans' (T := fun k => k = b6) (by rw [← hw7]; exact (((Keeps.refl (fun k => k = b6) W3).setCell (p := ⟨b6, 0, none⟩) (fun _ => rfl) _).setCell (p := ⟨b6, 1, none⟩) (fun _ => rfl) _).setCell (p := ⟨b6, 2, none⟩) (fun _ => rfl) _) (fun j hj e => by omega))
  have HG7 := Lib.hid (K7.out.owns hg (fun _ _ => id))
  rw [hTC]
  clear r2 r25 hg hZT hTC k1 k2 k3 r1 r13 r3 hbb hr30 hr7
  have d2 : (k : Int) < (n : Int) := hk1
  have d2b : k < n := by omega
  have d3 : decide (x < 0) = false := decide_eq_false (by omega)
  have d4 : decide (x ≥ L) = true := decide_eq_true (by omega)
  clear h
  go_enter Try.func13, Try.ntmps13
  go_wp2
  refine bodyPost_ret (results_cell_tmp13 rfl _ _ b6 30 TC (0, 0) _ rfl (by first | exact R7.out | (rw [hw7]; exact R7.out)) Try.underlying30 rfl STC.out) rfl ?_
  exact ⟨rfl, by first | exact K7.out | (rw [hw7]; exact K7.out)⟩
set_option maxRecDepth 100000 in
set_option maxHeartbeats 2000000 in
theorem rset_y0 (L H : Int) (A : Option Addr) (n c : Nat) (ps : List (Int × Int)) (k x y : Int) (w : World) (hg : w.ownsRow 0 42 2 (.slice A n c) n (pcells ps)) (hn1 : 1 ≤ n) (hk0 : 0 ≤ k) (hk1 : k < (n : Int)) (h0 : 0 ≤ x ∧ x < L) (h : y < 0) :
    Calls Try.prog 13 #[.agg (tcs L H A n c), .int .i64 k, .agg #[.int .i64 x, .int .i64 y]] w fun e w' => e = .returned (.tuple #[.agg (tcs L H A n c), .int .i64 1]) ∧ Keeps (fun _ => False) w w' := by
  obtain ⟨g0, rfl⟩ := own_some13 hg (by omega)
  obtain ⟨k, rfl⟩ := Int.eq_ofNat_of_zero_le (show 0 ≤ k by omega)
  obtain ⟨ZT, hZT⟩ : ∃ Z, tcs 0 0 none 0 0 = Z := ⟨_, rfl⟩
  have hzt : ∀ V : World, (zeroValue 30).run Try.prog V = .ok (.agg ZT) V := fun V => by rw [← hZT]; exact zero_T V
  obtain ⟨TC, hTC⟩ : ∃ C, tcs L H (some ⟨g0, 0, none⟩) n c = C := ⟨_, rfl⟩
  have STC : Hid ((Try.prog.info? 30).map (·.size) = some TC.size) := Lib.hid (by rw [← hTC]; exact size_T)
  have NZT : Hid (ZT.size = 3) := Lib.hid (by rw [← hZT]; rfl)
  have NTC : Hid (ZT.size = TC.size) := Lib.hid (by rw [← hZT, ← hTC]; rfl)
  have OTC : Hid (TC.all (·.oneCell') = true) := Lib.hid (by rw [← hTC]; exact tcs_one _ _ _ _ _)
  obtain ⟨b3, hb3⟩ : ∃ x, w.heap.size = x := ⟨_, rfl⟩
  obtain ⟨W1, hW1⟩ : ∃ V, w.alloc (.cells TC 30) = V := ⟨_, rfl⟩
  have k1 : Keeps (fun _ => False) w W1 := by rw [← hW1]; exact (Keeps.refl _ _).alloc _
  have r1 : Row W1 b3 30 [.int .i64 L, .int .i64 H, .slice (some ⟨g0, 0, none⟩) n c] := by rw [← hW1, ← hb3, ← hTC]; exact heap_alloc_new w _
  obtain ⟨b5, hb5⟩ : ∃ x, W1.heap.size = x := ⟨_, rfl⟩
  obtain ⟨W2, hW2⟩ : ∃ V, W1.alloc (.cells #[.int .i64 x, .int .i64 y] 42) = V := ⟨_, rfl⟩
  have k2 : Keeps (fun _ => False) W1 W2 := by rw [← hW2]; exact (Keeps.refl _ _).alloc _
  have r2 : Row W2 b5 42 [.int .i64 x, .int .i64 y] := by rw [← hW2, ← hb5]; exact heap_alloc_new W1 _
  obtain ⟨b6, hb6⟩ : ∃ x, W2.heap.size = x := ⟨_, rfl⟩
  obtain ⟨W3, hW3⟩ : ∃ V, W2.alloc (.cells ZT 30) = V := ⟨_, rfl⟩
  have k3 : Keeps (fun _ => False) W2 W3 := by rw [← hW3]; exact (Keeps.refl _ _).alloc _
  have r13 := r1.keeps (k2.trans k3) id
  have r3 : W3.heap[b6]? = some (.cells ZT 30 (0, 0)) := by rw [← hW3, ← hb6]; exact heap_alloc_new W2 _
  have r25 := r2.keeps k3 id
  have c50 : W3.cell? ⟨b5, 0, none⟩ = some (.int .i64 x) := r25.cell 0
  have c51 : W3.cell? ⟨b5, 1, none⟩ = some (.int .i64 y) := r25.cell 1
  have c30 : W3.cell? ⟨b3, 0, none⟩ = some (.int .i64 L) := r13.cell 0
  have c31 : W3.cell? ⟨b3, 1, none⟩ = some (.int .i64 H) := r13.cell 1
  have c32 : W3.cell? ⟨b3, 2, none⟩ = some (.slice (some ⟨g0, 0, none⟩) n c) := r13.cell 2
  have hbb : w.heap.size ≤ b3 ∧ b3 < b6 ∧ b6 < W3.heap.size := by
    have h1 := (Array.getElem?_eq_some_iff.1 r3).1
    have h2 := (r1.keeps k2 id).lt
    omega
  have K3 := Lib.hid ((k1.trans k2).trans k3)
  have HG3 := Lib.hid (((k1.trans k2).trans k3).owns hg (fun _ _ => id))
  have HG := Lib.hid hg
  have R13 : Hid (W3.heap[b3]? = some (.cells TC 30 (0, 0))) := Lib.hid (by rw [← hTC]; exact r13)
  have R3 := Lib.hid r3
  have HBB := Lib.hid hbb
  have HTC := Lib.hid hTC
  have hr30 : Row W3 b6 30 [.int .i64 0, .int .i64 0, .slice none 0 0] := by
    have h := r3
    rw [← hZT] at h
    exact h
  have c60 : W3.cell? ⟨b6, 0, none⟩ = some (.int .i64 0) := hr30.cell 0
  have c61 : W3.cell? ⟨b6, 1, none⟩ = some (.int .i64 0) := hr30.cell 1
  have c62 : W3.cell? ⟨b6, 2, none⟩ = some (.slice none 0 0) := hr30.cell 2
  have f60 := hr30.frozen 0
  have f61 := hr30.frozen 1
  have f62 := hr30.frozen 2
  obtain ⟨w7, hw7⟩ : ∃ V, ((W3.setCell ⟨b6, 0, none⟩ (.int .i64 L)).setCell ⟨b6, 1, none⟩ (.int .i64 H)).setCell ⟨b6, 2, none⟩ (.slice (some ⟨g0, 0, none⟩) n c) = V := ⟨_, rfl⟩
  have hr7 : Row w7 b6 30 [.int .i64 L, .int .i64 H, .slice (some ⟨g0, 0, none⟩) n c] := by
    rw [← hw7]
    exact ((hr30.set 0 (.int .i64 L)).set 1 (.int .i64 H)).set 2 (.slice (some ⟨g0, 0, none⟩) n c)
  have R7 : Hid (w7.heap[b6]? = some (.cells TC 30 (0, 0))) := Lib.hid (by rw [← hTC]; exact hr7)
  have K7 : Hid (Keeps (fun _ => False) w w7) := Lib.hid (K3.out.trans' (T := fun k => k = b6) (by rw [← hw7]; exact (((Keeps.refl (fun k => k = b6) W3).setCell (p := ⟨b6, 0, none⟩) (fun _ => rfl) _).setCell (p := ⟨b6, 1, none⟩) (fun _ => rfl) _).setCell (p := ⟨b6, 2, none⟩) (fun _ => rfl) _) (fun j hj e => by omega))
  have HG7 := Lib.hid (K7.out.owns hg (fun _ _ => id))
  rw [hTC]
  clear r2 r25 hg hZT hTC k1 k2 k3 r1 r13 r3 hbb hr30 hr7
  have d2 : (k : Int) < (n : Int) := hk1
  have d2b : k < n := by omega
  have d3 : decide (x < 0) = false := decide_eq_false (by omega)
  have d4 : decide (x ≥ L) = false := decide_eq_false (by omega)
  have d5 : decide (y < 0) = true := decide_eq_true (by omega)
  clear h
  go_enter Try.func13, Try.ntmps13
  go_wp2
  refine bodyPost_ret (results_cell_tmp13 rfl _ _ b6 30 TC (0, 0) _ rfl (by first | exact R7.out | (rw [hw7]; exact R7.out)) Try.underlying30 rfl STC.out) rfl ?_
  exact ⟨rfl, by first | exact K7.out | (rw [hw7]; exact K7.out)⟩
set_option maxRecDepth 100000 in
set_option maxHeartbeats 2000000 in
theorem rset_y1 (L H : Int) (A : Option Addr) (n c : Nat) (ps : List (Int × Int)) (k x y : Int) (w : World) (hg : w.ownsRow 0 42 2 (.slice A n c) n (pcells ps)) (hn1 : 1 ≤ n) (hk0 : 0 ≤ k) (hk1 : k < (n : Int)) (h0 : 0 ≤ x ∧ x < L) (h1 : 0 ≤ y) (h : H < y) :
    Calls Try.prog 13 #[.agg (tcs L H A n c), .int .i64 k, .agg #[.int .i64 x, .int .i64 y]] w fun e w' => e = .returned (.tuple #[.agg (tcs L H A n c), .int .i64 1]) ∧ Keeps (fun _ => False) w w' := by
  obtain ⟨g0, rfl⟩ := own_some13 hg (by omega)
  obtain ⟨k, rfl⟩ := Int.eq_ofNat_of_zero_le (show 0 ≤ k by omega)
  obtain ⟨ZT, hZT⟩ : ∃ Z, tcs 0 0 none 0 0 = Z := ⟨_, rfl⟩
  have hzt : ∀ V : World, (zeroValue 30).run Try.prog V = .ok (.agg ZT) V := fun V => by rw [← hZT]; exact zero_T V
  obtain ⟨TC, hTC⟩ : ∃ C, tcs L H (some ⟨g0, 0, none⟩) n c = C := ⟨_, rfl⟩
  have STC : Hid ((Try.prog.info? 30).map (·.size) = some TC.size) := Lib.hid (by rw [← hTC]; exact size_T)
  have NZT : Hid (ZT.size = 3) := Lib.hid (by rw [← hZT]; rfl)
  have NTC : Hid (ZT.size = TC.size) := Lib.hid (by rw [← hZT, ← hTC]; rfl)
  have OTC : Hid (TC.all (·.oneCell') = true) := Lib.hid (by rw [← hTC]; exact tcs_one _ _ _ _ _)
  obtain ⟨b3, hb3⟩ : ∃ x, w.heap.size = x := ⟨_, rfl⟩
  obtain ⟨W1, hW1⟩ : ∃ V, w.alloc (.cells TC 30) = V := ⟨_, rfl⟩
  have k1 : Keeps (fun _ => False) w W1 := by rw [← hW1]; exact (Keeps.refl _ _).alloc _
  have r1 : Row W1 b3 30 [.int .i64 L, .int .i64 H, .slice (some ⟨g0, 0, none⟩) n c] := by rw [← hW1, ← hb3, ← hTC]; exact heap_alloc_new w _
  obtain ⟨b5, hb5⟩ : ∃ x, W1.heap.size = x := ⟨_, rfl⟩
  obtain ⟨W2, hW2⟩ : ∃ V, W1.alloc (.cells #[.int .i64 x, .int .i64 y] 42) = V := ⟨_, rfl⟩
  have k2 : Keeps (fun _ => False) W1 W2 := by rw [← hW2]; exact (Keeps.refl _ _).alloc _
  have r2 : Row W2 b5 42 [.int .i64 x, .int .i64 y] := by rw [← hW2, ← hb5]; exact heap_alloc_new W1 _
  obtain ⟨b6, hb6⟩ : ∃ x, W2.heap.size = x := ⟨_, rfl⟩
  obtain ⟨W3, hW3⟩ : ∃ V, W2.alloc (.cells ZT 30) = V := ⟨_, rfl⟩
  have k3 : Keeps (fun _ => False) W2 W3 := by rw [← hW3]; exact (Keeps.refl _ _).alloc _
  have r13 := r1.keeps (k2.trans k3) id
  have r3 : W3.heap[b6]? = some (.cells ZT 30 (0, 0)) := by rw [← hW3, ← hb6]; exact heap_alloc_new W2 _
  have r25 := r2.keeps k3 id
  have c50 : W3.cell? ⟨b5, 0, none⟩ = some (.int .i64 x) := r25.cell 0
  have c51 : W3.cell? ⟨b5, 1, none⟩ = some (.int .i64 y) := r25.cell 1
  have c30 : W3.cell? ⟨b3, 0, none⟩ = some (.int .i64 L) := r13.cell 0
  have c31 : W3.cell? ⟨b3, 1, none⟩ = some (.int .i64 H) := r13.cell 1
  have c32 : W3.cell? ⟨b3, 2, none⟩ = some (.slice (some ⟨g0, 0, none⟩) n c) := r13.cell 2
  have hbb : w.heap.size ≤ b3 ∧ b3 < b6 ∧ b6 < W3.heap.size := by
    have h1 := (Array.getElem?_eq_some_iff.1 r3).1
    have h2 := (r1.keeps k2 id).lt
    omega
  have K3 := Lib.hid ((k1.trans k2).trans k3)
  have HG3 := Lib.hid (((k1.trans k2).trans k3).owns hg (fun _ _ => id))
  have HG := Lib.hid hg
  have R13 : Hid (W3.heap[b3]? = some (.cells TC 30 (0, 0))) := Lib.hid (by rw [← hTC]; exact r13)
  have R3 := Lib.hid r3
  have HBB := Lib.hid hbb
  have HTC := Lib.hid hTC
  have hr30 : Row W3 b6 30 [.int .i64 0, .int .i64 0, .slice none 0 0] := by
    have h := r3
    rw [← hZT] at h
    exact h
  have c60 : W3.cell? ⟨b6, 0, none⟩ = some (.int .i64 0) := hr30.cell 0
  have c61 : W3.cell? ⟨b6, 1, none⟩ = some (.int .i64 0) := hr30.cell 1
  have c62 : W3.cell? ⟨b6, 2, none⟩ = some (.slice none 0 0) := hr30.cell 2
  have f60 := hr30.frozen 0
  have f61 := hr30.frozen 1
  have f62 := hr30.frozen 2
  obtain ⟨w7, hw7⟩ : ∃ V, ((W3.setCell ⟨b6, 0, none⟩ (.int .i64 L)).setCell ⟨b6, 1, none⟩ (.int .i64 H)).setCell ⟨b6, 2, none⟩ (.slice (some ⟨g0, 0, none⟩) n c) = V := ⟨_, rfl⟩
  have hr7 : Row w7 b6 30 [.int .i64 L, .int .i64 H, .slice (some ⟨g0, 0, none⟩) n c] := by
    rw [← hw7]
    exact ((hr30.set 0 (.int .i64 L)).set 1 (.int .i64 H)).set 2 (.slice (some ⟨g0, 0, none⟩) n c)
  have R7 : Hid (w7.heap[b6]? = some (.cells TC 30 (0, 0))) := Lib.hid (by rw [← hTC]; exact hr7)
  have K7 : Hid (Keeps (fun _ => False) w w7) := Lib.hid (K3.out.trans' (T := fun k => k = b6) (by rw [← hw7]; exact (((Keeps.refl (fun k => k = b6) W3).setCell (p := ⟨b6, 0, none⟩) (fun _ => rfl) _).setCell (p := ⟨b6, 1, none⟩) (fun _ => rfl) _).setCell (p := ⟨b6, 2, none⟩) (fun _ => rfl) _) (fun j hj e => by omega))
  have HG7 := Lib.hid (K7.out.owns hg (fun _ _ => id))
  rw [hTC]
  clear r2 r25 hg hZT hTC k1 k2 k3 r1 r13 r3 hbb hr30 hr7
  have d2 : (k : Int) < (n : Int) := hk1
  have d2b : k < n := by omega
  have d3 : decide (x < 0) = false := decide_eq_false (by omega)
  have d4 : decide (x ≥ L) = false := decide_eq_false (by omega)
  have d5 : decide (y < 0) = false := decide_eq_false (by omega)
  have d6 : decide (y > H) = true := decide_eq_true (by omega)
  clear h
  go_enter Try.func13, Try.ntmps13
  go_wp2
  refine bodyPost_ret (results_cell_tmp13 rfl _ _ b6 30 TC (0, 0) _ rfl (by first | exact R7.out | (rw [hw7]; exact R7.out)) Try.underlying30 rfl STC.out) rfl ?_
  exact ⟨rfl, by first | exact K7.out | (rw [hw7]; exact K7.out)⟩
set_option maxRecDepth 100000 in
set_option maxHeartbeats 2000000 in
theorem rset_on (L H : Int) (A : Option Addr) (n c : Nat) (ps : List (Int × Int)) (k : Nat) (x y : Int) (w : World) (hg : w.ownsRow 0 42 2 (.slice A n c) n (pcells ps)) (hkn : k < n) (hn : n ≤ 64) (hx : 0 ≤ x ∧ x < L) (hy : 0 ≤ y ∧ y ≤ H) :
    Calls Try.prog 13 #[.agg (tcs L H A n c), .int .i64 (k : Int), .agg #[.int .i64 x, .int .i64 y]] w fun e w' => ∃ A' c', e = .returned (.tuple #[.agg (tcs L H A' n c'), .int .i64 0]) ∧ w'.ownsRow w.heap.size 42 2 (.slice A' n c') n (pcells (ps.set k (x, y))) ∧ Keeps (fun _ => False) w w' := by
  obtain ⟨g0, rfl⟩ := own_some13 hg (by omega)
  obtain ⟨ZT, hZT⟩ : ∃ Z, tcs 0 0 none 0 0 = Z := ⟨_, rfl⟩
  have hzt : ∀ V : World, (zeroValue 30).run Try.prog V = .ok (.agg ZT) V := fun V => by rw [← hZT]; exact zero_T V
  obtain ⟨TC, hTC⟩ : ∃ C, tcs L H (some ⟨g0, 0, none⟩) n c = C := ⟨_, rfl⟩
  have STC : Hid ((Try.prog.info? 30).map (·.size) = some TC.size) := Lib.hid (by rw [← hTC]; exact size_T)
  have NZT : Hid (ZT.size = 3) := Lib.hid (by rw [← hZT]; rfl)
  have NTC : Hid (ZT.size = TC.size) := Lib.hid (by rw [← hZT, ← hTC]; rfl)
  have OTC : Hid (TC.all (·.oneCell') = true) := Lib.hid (by rw [← hTC]; exact tcs_one _ _ _ _ _)
  obtain ⟨b3, hb3⟩ : ∃ x, w.heap.size = x := ⟨_, rfl⟩
  obtain ⟨W1, hW1⟩ : ∃ V, w.alloc (.cells TC 30) = V := ⟨_, rfl⟩
  have k1 : Keeps (fun _ => False) w W1 := by rw [← hW1]; exact (Keeps.refl _ _).alloc _
  have r1 : Row W1 b3 30 [.int .i64 L, .int .i64 H, .slice (some ⟨g0, 0, none⟩) n c] := by rw [← hW1, ← hb3, ← hTC]; exact heap_alloc_new w _
  obtain ⟨b5, hb5⟩ : ∃ x, W1.heap.size = x := ⟨_, rfl⟩
  obtain ⟨W2, hW2⟩ : ∃ V, W1.alloc (.cells #[.int .i64 x, .int .i64 y] 42) = V := ⟨_, rfl⟩
  have k2 : Keeps (fun _ => False) W1 W2 := by rw [← hW2]; exact (Keeps.refl _ _).alloc _
  have r2 : Row W2 b5 42 [.int .i64 x, .int .i64 y] := by rw [← hW2, ← hb5]; exact heap_alloc_new W1 _
  obtain ⟨b6, hb6⟩ : ∃ x, W2.heap.size = x := ⟨_, rfl⟩
  obtain ⟨W3, hW3⟩ : ∃ V, W2.alloc (.cells ZT 30) = V := ⟨_, rfl⟩
  have k3 : Keeps (fun _ => False) W2 W3 := by rw [← hW3]; exact (Keeps.refl _ _).alloc _
  have r13 := r1.keeps (k2.trans k3) id
  have r3 : W3.heap[b6]? = some (.cells ZT 30 (0, 0)) := by rw [← hW3, ← hb6]; exact heap_alloc_new W2 _
  have r25 := r2.keeps k3 id
  have c50 : W3.cell? ⟨b5, 0, none⟩ = some (.int .i64 x) := r25.cell 0
  have c51 : W3.cell? ⟨b5, 1, none⟩ = some (.int .i64 y) := r25.cell 1
  have c30 : W3.cell? ⟨b3, 0, none⟩ = some (.int .i64 L) := r13.cell 0
  have c31 : W3.cell? ⟨b3, 1, none⟩ = some (.int .i64 H) := r13.cell 1
  have c32 : W3.cell? ⟨b3, 2, none⟩ = some (.slice (some ⟨g0, 0, none⟩) n c) := r13.cell 2
  have hbb : w.heap.size ≤ b3 ∧ b3 < b6 ∧ b6 < W3.heap.size := by
    have h1 := (Array.getElem?_eq_some_iff.1 r3).1
    have h2 := (r1.keeps k2 id).lt
    omega
  have K3 := Lib.hid ((k1.trans k2).trans k3)
  have HG3 := Lib.hid (((k1.trans k2).trans k3).owns hg (fun _ _ => id))
  have HG := Lib.hid hg
  have R13 : Hid (W3.heap[b3]? = some (.cells TC 30 (0, 0))) := Lib.hid (by rw [← hTC]; exact r13)
  have R3 := Lib.hid r3
  have HBB := Lib.hid hbb
  have HTC := Lib.hid hTC
  have hr30 : Row W3 b6 30 [.int .i64 0, .int .i64 0, .slice none 0 0] := by
    have h := r3
    rw [← hZT] at h
    exact h
  have c60 : W3.cell? ⟨b6, 0, none⟩ = some (.int .i64 0) := hr30.cell 0
  have c61 : W3.cell? ⟨b6, 1, none⟩ = some (.int .i64 0) := hr30.cell 1
  have c62 : W3.cell? ⟨b6, 2, none⟩ = some (.slice none 0 0) := hr30.cell 2
  have f60 := hr30.frozen 0
  have f61 := hr30.frozen 1
  have f62 := hr30.frozen 2
  obtain ⟨w7, hw7⟩ : ∃ V, ((W3.setCell ⟨b6, 0, none⟩ (.int .i64 L)).setCell ⟨b6, 1, none⟩ (.int .i64 H)).setCell ⟨b6, 2, none⟩ (.slice (some ⟨g0, 0, none⟩) n c) = V := ⟨_, rfl⟩
  have hr7 : Row w7 b6 30 [.int .i64 L, .int .i64 H, .slice (some ⟨g0, 0, none⟩) n c] := by
    rw [← hw7]
    exact ((hr30.set 0 (.int .i64 L)).set 1 (.int .i64 H)).set 2 (.slice (some ⟨g0, 0, none⟩) n c)
  have R7 : Hid (w7.heap[b6]? = some (.cells TC 30 (0, 0))) := Lib.hid (by rw [← hTC]; exact hr7)
  have K7 : Hid (Keeps (fun _ => False) w w7) := Lib.hid (K3.out.trans' (T := fun k => k = b6) (by rw [← hw7]; exact (((Keeps.refl (fun k => k = b6) W3).setCell (p := ⟨b6, 0, none⟩) (fun _ => rfl) _).setCell (p := ⟨b6, 1, none⟩) (fun _ => rfl) _).setCell (p := ⟨b6, 2, none⟩) (fun _ => rfl) _) (fun j hj e => by omega))
  have HG7 := Lib.hid (K7.out.owns hg (fun _ _ => id))
  rw [hTC]
  clear r2 r25 hg hZT hTC k1 k2 k3 r1 r13 r3 hbb hr7
  have R65 : Hid (Row W3 b6 30 [.int .i64 0, .int .i64 0, .slice none 0 0]) := Lib.hid hr30
  have K5 := K3
  have hst : Calls Try.prog 23 #[.agg #[.int .i64 L, .int .i64 H, .slice (some ⟨g0, 0, none⟩) n c], .int .i64 (k : Int), .agg #[.int .i64 x, .int .i64 y]] W3 (fun e w' => ∃ A' c', e = .returned (.agg #[.int .i64 L, .int .i64 H, .slice A' n c']) ∧ w'.ownsRow W3.heap.size 42 2 (.slice A' n c') n (pcells (ps.set k (x, y))) ∧ Keeps (fun _ => False) W3 w') := rput_any L H (some ⟨g0, 0, none⟩) n c ps k (x, y) W3 HG3.out hkn hn
  have HST := Lib.hid hst
  have d1 : ¬ (k : Int) < 0 := by omega
  have d2 : (k : Int) < (n : Int) := by omega
  have d3 : decide (x < 0) = false := decide_eq_false (by omega)
  have d4 : decide (x ≥ L) = false := decide_eq_false (by omega)
  have d5 : decide (y < 0) = false := decide_eq_false (by omega)
  have d6 : decide (y > H) = false := decide_eq_false (by omega)
  clear hst hx hy R7 K7 HG7 hw7 c60 c61 c62 f60 f61 f62 hr30
  go_enter Try.func13, Try.ntmps13
  go_wp2_with fail
  refine (HST.out).mono ?_
  rintro e w8 ⟨A8, c8, rfl, ho8, k8⟩
  have hr8 : Row w8 b6 30 [.int .i64 0, .int .i64 0, .slice none 0 0] := R65.out.keeps k8 id
  have e60 : w8.cell? ⟨b6, 0, none⟩ = some (.int .i64 0) := hr8.cell 0
  have e61 : w8.cell? ⟨b6, 1, none⟩ = some (.int .i64 0) := hr8.cell 1
  have e62 : w8.cell? ⟨b6, 2, none⟩ = some (.slice none 0 0) := hr8.cell 2
  have g60 := hr8.frozen 0
  have g61 := hr8.frozen 1
  have g62 := hr8.frozen 2
  obtain ⟨w9, hw9⟩ : ∃ V, ((w8.setCell ⟨b6, 0, none⟩ (.int .i64 L)).setCell ⟨b6, 1, none⟩ (.int .i64 H)).setCell ⟨b6, 2, none⟩ (.slice A8 n c8) = V := ⟨_, rfl⟩
  have hr9 : Row w9 b6 30 [.int .i64 L, .int .i64 H, .slice A8 n c8] := by
    rw [← hw9]
    exact ((hr8.set 0 (.int .i64 L)).set 1 (.int .i64 H)).set 2 (.slice A8 n c8)
  have k9 : Keeps (fun j => j = b6) w8 w9 := by rw [← hw9]; exact (((Keeps.refl (fun k => k = b6) w8).setCell (p := ⟨b6, 0, none⟩) (fun _ => rfl) _).setCell (p := ⟨b6, 1, none⟩) (fun _ => rfl) _).setCell (p := ⟨b6, 2, none⟩) (fun _ => rfl) _
  have R9 : Hid (w9.heap[b6]? = some (.cells (tcs L H A8 n c8) 30 (0, 0))) := Lib.hid hr9
  have FIN : Hid (w9.ownsRow w.heap.size 42 2 (.slice A8 n c8) n (pcells (ps.set k (x, y))) ∧ Keeps (fun _ => False) w w9) := Lib.hid (by
    have hb := HBB.out
    refine ⟨k9.owns (own_base ho8 K5.out.size) (fun j hj e => ?_), (K5.out.trans k8).trans' k9 (fun j hj e => by omega)⟩
    obtain ⟨_, _, hbj⟩ := own_block ho8 j hj
    have := R65.out.lt
    omega)
  clear ho8 k8 k9 hr8 hr9 c30 c31 c32 c50 c51
  go_wp2
  refine bodyPost_ret (results_cell_tmp13 rfl _ _ b6 30 (tcs L H A8 n c8) (0, 0) _ rfl (by first | exact R9.out | (rw [hw9]; exact R9.out)) Try.underlying30 rfl size_T) rfl ?_
  exact ⟨_, _, rfl, by first | exact FIN.out.1 | (rw [hw9]; exact FIN.out.1), by first | exact FIN.out.2 | (rw [hw9]; exact FIN.out.2)⟩
end Go.Proofs.Ytdihkbkcefjeoaa
