/-
  A table of peers in memory; a peer told; whether one is kept away.
-/
import Derived.Test.YtdihkbkcefjeoaaScM
import Derived.Test.YtdihkbkcefjeoaaOwnB
import Derived.Test.YtdihkbkcefjeoaaClsW
import Derived.Laws.Tables
import Derived.Test.YtdihkbkcefjeoaaRows
import Derived.WalkSpells
namespace Go.Proofs.Ytdihkbkcefjeoaa
open Go.RowKit Go.BigFrame
set_option linter.unusedVariables false
set_option linter.unusedSimpArgs false

/-- A table lies at g, its map at b. -/
structure TabAt (w : World) (g b : Nat) (s : Sc.Tb) : Prop where
  row : Row w g 61 [.map (some b), .int .i64 s.limit, .int .i64 s.hold]
  map : PMap w b s.ps
  ok : Sc.Ok s
section
variable {w w' : World} {g b : Nat} {s : Sc.Tb}
theorem TabAt.ne (h : TabAt w g b s) : b ≠ g := h.map.apart h.row
theorem TabAt.keeps {S : Nat → Prop} (h : TabAt w g b s) (hk : Keeps S w w') (hg : ¬ S g) (hb : ¬ S b) : TabAt w' g b s := ⟨h.row.keeps hk hg, h.map.keeps hk hb, h.ok⟩
theorem TabAt.later (h : TabAt w g b s) (hk : Keeps (fun _ => False) w w') : TabAt w' g b s := h.keeps hk id id
theorem TabAt.put {s' : Sc.Tb} (h : TabAt w g b s) (hk : Keeps (fun k => k = b) w w') (hm : PMap w' b s'.ps) (hl : s'.limit = s.limit) (hh : s'.hold = s.hold) (ho : Sc.Ok s') : TabAt w' g b s' :=
  ⟨by rw [hl, hh]; exact h.row.keeps hk (Ne.symm h.ne), hm, ho⟩
end
theorem results_cell_tmp13 {P : Program} {fn : Func} {p u : Tmp} {ty : TypeId} (h : fn.results = #[.cell p ty, .tmp u]) (tmps : Array Value) (w : World) (g : Nat) (t : TypeId) (cs : Array Value) (fr : Nat × Nat) (d : TypeDesc)
    (hp : tmps.getD p undef = .pointer (some ⟨g, 0, none⟩)) (hg : w.heap[g]? = some (.cells cs t fr))
    (hu : P.underlying ty = some d) (hd : (match d with | .struct _ | .array _ _ => true | _ => false) = true) (hi : (P.info? ty).map (·.size) = some cs.size) :
    (results fn tmps).run P w = .ok (.tuple #[.agg cs, tmps.getD u undef]) w := by
  have hp' : tmps[p]?.getD undef = .pointer (some ⟨g, 0, none⟩) := by simpa using hp
  simp [results, h, hp', asAddr, run_loadVar_row w g t ty cs fr d hg hu hd hi]
/-- A peer's cells. -/
def pc (p : Int × Int) : Array Value := #[.int .i64 p.1, .int .i64 p.2]
theorem pv_pc (p : Int × Int) : pv p = .agg (pc p) := rfl
theorem pc_size (p : Int × Int) : (pc p).size = 2 := rfl
theorem pc_one (p : Int × Int) : (pc p).all (·.oneCell') = true := by simp [pc, Value.oneCell']
theorem size_Peer : (Try.prog.info? 40).map (·.size) = some 2 := by kernel_rfl
theorem size_peer (p : Int × Int) : (Try.prog.info? 40).map (·.size) = some (pc p).size := size_Peer
theorem zero_peer (w : World) : (zeroValue 40).run Try.prog w = .ok (.agg (pc (0, 0))) w := by kernel_rfl
theorem build_peer_none (V : World) : (Instr.build 40 #[]).run Try.prog V = .ok (.agg (pc (0, 0))) V := by kernel_rfl
theorem build_peer (a c : Int) (V : World) : (Instr.build 40 #[(0, .int .i64 a), (1, .int .i64 c)]).run Try.prog V = .ok (.agg (pc (a, c))) V := by kernel_rfl
theorem build_peer_one (a : Int) (V : World) : (Instr.build 40 #[(0, .int .i64 a)]).run Try.prog V = .ok (.agg (pc (a, 0))) V := by kernel_rfl

theorem within_any (n lo hi : Int) (w : World) : Calls Try.prog 21 #[.int .i64 n, .int .i64 lo, .int .i64 hi] w fun e w' => e = .returned (.bool (decide (lo ≤ n ∧ n ≤ hi))) ∧ w' = w := by
  by_cases h1 : lo ≤ n
  · have hd : decide (n ≥ lo) = true := decide_eq_true h1
    have he : decide (lo ≤ n ∧ n ≤ hi) = decide (n ≤ hi) := by simp [h1]
    rw [he]
    go_enter Try.func21, Try.ntmps21
    go_wp2
    go_ret
    exact ⟨rfl, rfl⟩
  · have hd : decide (n ≥ lo) = false := decide_eq_false h1
    have he : decide (lo ≤ n ∧ n ≤ hi) = false := by simp [h1]
    rw [he]
    go_enter Try.func21, Try.ntmps21
    go_wp2
    go_ret
    exact ⟨rfl, rfl⟩
theorem away_any (p : Int × Int) (w : World) : Calls Try.prog 22 #[.agg (pc p)] w fun e w' => e = .returned (.bool (decide (0 < p.2))) ∧ Keeps (fun _ => False) w w' := by
  obtain ⟨a, c⟩ := p
  obtain ⟨C, hC⟩ : ∃ C, pc (a, c) = C := ⟨_, rfl⟩
  obtain ⟨b1, hb1⟩ : ∃ x, w.heap.size = x := ⟨_, rfl⟩
  obtain ⟨W1, hW1⟩ : ∃ V, w.alloc (.cells C 40) = V := ⟨_, rfl⟩
  have K1 : Hid (Keeps (fun _ => False) w W1) := Lib.hid (by rw [← hW1]; exact (Keeps.refl _ _).alloc _)
  have hr : Row W1 b1 40 [.int .i64 a, .int .i64 c] := by rw [← hW1, ← hb1, ← hC]; exact heap_alloc_new w _
  have c1 : W1.cell? ⟨b1, 1, none⟩ = some (.int .i64 c) := hr.cell 1
  clear hr
  rw [hC]
  clear hC
  go_enter Try.func22, Try.ntmps22
  go_wp2
  go_ret
  exact ⟨rfl, K1.out⟩
set_option maxHeartbeats 1000000 in
theorem peer_none (k : Int) (w : World) : Calls Try.prog 19 #[.pointer none, .int .i64 k] w fun e w' => e = .returned (.tuple #[.agg (pc (0, 0)), .bool false]) ∧ Keeps (fun _ => False) w w' := by
  obtain ⟨Z, hZ⟩ : ∃ Z, pc (0, 0) = Z := ⟨_, rfl⟩
  have hz : ∀ V : World, (zeroValue 40).run Try.prog V = .ok (.agg Z) V := fun V => by rw [← hZ]; exact zero_peer V
  have SZ : Hid ((Try.prog.info? 40).map (·.size) = some Z.size) := Lib.hid (by rw [← hZ]; exact size_Peer)
  have OZ : Hid (Z.all (·.oneCell') = true) := Lib.hid (by rw [← hZ]; exact pc_one _)
  have HB : Hid (∀ V : World, (Instr.build 40 #[]).run Try.prog V = .ok (.agg Z) V) := Lib.hid (fun V => by rw [← hZ]; exact build_peer_none V)
  obtain ⟨b1, hb1⟩ : ∃ x, w.heap.size = x := ⟨_, rfl⟩
  obtain ⟨W1, hW1⟩ : ∃ V, w.alloc (.cells Z 40) = V := ⟨_, rfl⟩
  have k1 : Keeps (fun _ => False) w W1 := by rw [← hW1]; exact (Keeps.refl _ _).alloc _
  have r1 : W1.heap[b1]? = some (.cells Z 40 (0, 0)) := by rw [← hW1, ← hb1]; exact heap_alloc_new w _
  obtain ⟨W2, hW2⟩ : ∃ V, W1.setRow b1 Z = V := ⟨_, rfl⟩
  have R2 : Hid (W2.heap[b1]? = some (.cells Z 40 (0, 0))) := Lib.hid (by rw [← hW2]; exact setRow_heap _ _ _ _ _ _ r1)
  have K2 : Hid (Keeps (fun _ => False) w W2) := Lib.hid (k1.trans' (T := fun k => k = b1) (by rw [← hW2]; exact Keeps.setRow _ _) (fun i hi e => by omega))
  have R1 := Lib.hid r1
  rw [hZ]
  clear hZ k1 r1
  go_enter Try.func19, Try.ntmps19
  go_wp2_with (first
    | (refine wpList_made (by rfl) 40 [] (by rfl) [] (by rfl) (.agg Z) HB.out ?_)
    | (refine wpList_store_row (by rfl) 40 _ _ (by rfl) b1 Z (by rfl) (by rfl) 40 Z R1.out SZ.out rfl OZ.out ?_; rw [hW2]))
  refine bodyPost_ret (results_cell_tmp13 rfl _ _ b1 40 Z (0, 0) _ rfl R2.out Try.underlying40 rfl SZ.out) rfl ?_
  exact ⟨rfl, K2.out⟩
set_option maxHeartbeats 1000000 in
/-- How one behaves; whether there is one. -/
theorem peer_any (w : World) (g b : Nat) (s : Sc.Tb) (k : Int) (h : TabAt w g b s) : Calls Try.prog 19 #[.pointer (some ⟨g, 0, none⟩), .int .i64 k] w fun e w' => e = .returned (.tuple #[.agg (pc (Sc.get s k)), .bool (Sc.has s k)]) ∧ Keeps (fun _ => False) w w' := by
  obtain ⟨Z, hZ⟩ : ∃ Z, pc (0, 0) = Z := ⟨_, rfl⟩
  obtain ⟨C, hC⟩ : ∃ C, pc (Sc.get s k) = C := ⟨_, rfl⟩
  obtain ⟨q, hq⟩ : ∃ q, Sc.has s k = q := ⟨_, rfl⟩
  have hz : ∀ V : World, (zeroValue 40).run Try.prog V = .ok (.agg Z) V := fun V => by rw [← hZ]; exact zero_peer V
  have SC : Hid ((Try.prog.info? 40).map (·.size) = some C.size) := Lib.hid (by rw [← hC]; exact size_Peer)
  have SZC : Hid (Z.size = C.size) := Lib.hid (by rw [← hC, ← hZ]; rfl)
  have OC : Hid (C.all (·.oneCell') = true) := Lib.hid (by rw [← hC]; exact pc_one _)
  obtain ⟨b1, hb1⟩ : ∃ x, w.heap.size = x := ⟨_, rfl⟩
  obtain ⟨W1, hW1⟩ : ∃ V, w.alloc (.cells Z 40) = V := ⟨_, rfl⟩
  obtain ⟨b2, hb2⟩ : ∃ x, W1.heap.size = x := ⟨_, rfl⟩
  obtain ⟨W2, hW2⟩ : ∃ V, W1.alloc (.cells Z 40) = V := ⟨_, rfl⟩
  have k1 : Keeps (fun _ => False) w W1 := by rw [← hW1]; exact (Keeps.refl _ _).alloc _
  have k2 : Keeps (fun _ => False) W1 W2 := by rw [← hW2]; exact (Keeps.refl _ _).alloc _
  have r1 : W2.heap[b1]? = some (.cells Z 40 (0, 0)) := (k2.block b1 (by rw [← hW1, ← hb1]; simp) id).trans (by rw [← hW1, ← hb1]; exact heap_alloc_new w _)
  have r2 : W2.heap[b2]? = some (.cells Z 40 (0, 0)) := by rw [← hW2, ← hb2]; exact heap_alloc_new W1 _
  have hb12 : b1 < b2 := by rw [← hb1, ← hb2, ← hW1]; simp
  obtain ⟨W3, hW3⟩ : ∃ V, W2.setRow b2 C = V := ⟨_, rfl⟩
  have k3 : Keeps (fun k => k = b2) W2 W3 := by rw [← hW3]; exact Keeps.setRow _ _
  have r13 : W3.heap[b1]? = some (.cells Z 40 (0, 0)) := (k3.block b1 (Array.getElem?_eq_some_iff.1 r1).1 (fun e => by omega)).trans r1
  have r23 : W3.heap[b2]? = some (.cells C 40 (0, 0)) := by rw [← hW3]; exact setRow_heap _ _ _ _ _ _ r2
  obtain ⟨W4, hW4⟩ : ∃ V, W3.setRow b1 C = V := ⟨_, rfl⟩
  have k4 : Keeps (fun k => k = b1) W3 W4 := by rw [← hW4]; exact Keeps.setRow _ _
  have R4 : Hid (W4.heap[b1]? = some (.cells C 40 (0, 0))) := Lib.hid (by rw [← hW4]; exact setRow_heap _ _ _ _ _ _ r13)
  have hws : w.heap.size ≤ b1 := by omega
  have K4 : Hid (Keeps (fun _ => False) w W4) := Lib.hid (((k1.trans k2).trans' k3 (fun i hi e => by omega)).trans' k4 (fun i hi e => by omega))
  have c0 : W1.cell? ⟨g, 0, none⟩ = some (.map (some b)) := (h.row.keeps k1 id).cell 0
  have HM := Lib.hid (h.map.keeps k1 id)
  have HZP := Lib.hid (fun V : World => zero_peer V)
  have R2 := Lib.hid r2
  have R13 := Lib.hid r13
  have R23 := Lib.hid r23
  have HC := Lib.hid hC
  have HQ := Lib.hid hq
  rw [hC, hq]
  clear hZ k1 k2 k3 k4 r1 r2 r13 r23 h hC hq
  go_enter Try.func19, Try.ntmps19
  go_wp2_with (first
    | (refine wpList_pmap_look_ok (by rfl) _ _ 59 3 40 (by rfl) Try.underlying59 Try.underlying3 HZP.out b s k (by rfl) (by rfl) HM.out ?_; rw [pv_pc, HC.out, HQ.out])
    | (refine wpList_load_row (by rfl) 40 _ (by rfl) b2 (by rfl) 40 C (0, 0) _ R23.out Try.underlying40 rfl SC.out ?_)
    | (refine wpList_store_row (by rfl) 40 _ _ (by rfl) b2 C (by rfl) (by rfl) 40 Z R2.out SC.out SZC.out OC.out ?_; rw [hW3])
    | (refine wpList_store_row (by rfl) 40 _ _ (by rfl) b1 C (by rfl) (by rfl) 40 Z R13.out SC.out SZC.out OC.out ?_; rw [hW4]))
  refine bodyPost_ret (results_cell_tmp13 rfl _ _ b1 40 C (0, 0) _ rfl R4.out Try.underlying40 rfl SC.out) rfl ?_
  exact ⟨rfl, K4.out⟩
set_option maxHeartbeats 1000000 in
/-- Whether one is kept away. -/
theorem taway_of (P : Value) (w : World) (p : Int × Int) (k : Int) (hp : Calls Try.prog 19 #[P, .int .i64 k] w fun e w' => ∃ q, e = .returned (.tuple #[.agg (pc p), .bool q]) ∧ Keeps (fun _ => False) w w') :
    Calls Try.prog 20 #[P, .int .i64 k] w fun e w' => e = .returned (.bool (decide (0 < p.2))) ∧ Keeps (fun _ => False) w w' := by
  obtain ⟨Z, hZ⟩ : ∃ Z, pc (0, 0) = Z := ⟨_, rfl⟩
  have hz : ∀ V : World, (zeroValue 40).run Try.prog V = .ok (.agg Z) V := fun V => by rw [← hZ]; exact zero_peer V
  have haw := fun V => away_any p V
  obtain ⟨C, hC⟩ : ∃ C, pc p = C := ⟨_, rfl⟩
  rw [hC] at hp haw
  have SC : Hid ((Try.prog.info? 40).map (·.size) = some C.size) := Lib.hid (by rw [← hC]; exact size_Peer)
  have SZC : Hid (Z.size = C.size) := Lib.hid (by rw [← hC, ← hZ]; rfl)
  have OC : Hid (C.all (·.oneCell') = true) := Lib.hid (by rw [← hC]; exact pc_one _)
  have HP := Lib.hid hp
  have HAW := Lib.hid haw
  clear hp haw hZ hC
  go_enter Try.func20, Try.ntmps20
  go_wp2_with fail
  refine HP.out.mono ?_
  rintro e w1 ⟨q, rfl, k1⟩
  obtain ⟨b2, hb2⟩ : ∃ x, w1.heap.size = x := ⟨_, rfl⟩
  obtain ⟨W2, hW2⟩ : ∃ V, w1.alloc (.cells Z 40) = V := ⟨_, rfl⟩
  have r2 : W2.heap[b2]? = some (.cells Z 40 (0, 0)) := by rw [← hW2, ← hb2]; exact heap_alloc_new w1 _
  have k2 : Keeps (fun _ => False) w W2 := by rw [← hW2]; exact k1.alloc _
  obtain ⟨W3, hW3⟩ : ∃ V, W2.setRow b2 C = V := ⟨_, rfl⟩
  have hws : w.heap.size ≤ b2 := by have := k1.size; omega
  have K3 : Hid (Keeps (fun _ => False) w W3) := Lib.hid (k2.trans' (T := fun k => k = b2) (by rw [← hW3]; exact Keeps.setRow _ _) (fun i hi e => by omega))
  have R3 : Hid (W3.heap[b2]? = some (.cells C 40 (0, 0))) := Lib.hid (by rw [← hW3]; exact setRow_heap _ _ _ _ _ _ r2)
  have R2 := Lib.hid r2
  clear r2 k1 k2 hws
  go_wp2_with (first
    | (refine wpList_load_row (by rfl) 40 _ (by rfl) b2 (by rfl) 40 C (0, 0) _ R3.out Try.underlying40 rfl SC.out ?_)
    | (refine wpList_store_row (by rfl) 40 _ _ (by rfl) b2 C (by rfl) (by rfl) 40 Z R2.out SC.out SZC.out OC.out ?_; rw [hW3])
    | fail)
  refine (HAW.out _).mono ?_
  rintro e w4 ⟨rfl, k4⟩
  have K4 := Lib.hid (K3.out.trans k4)
  clear k4
  go_wp2
  go_ret
  exact ⟨rfl, K4.out⟩
theorem taway_any (w : World) (g b : Nat) (s : Sc.Tb) (k : Int) (h : TabAt w g b s) : Calls Try.prog 20 #[.pointer (some ⟨g, 0, none⟩), .int .i64 k] w fun e w' => e = .returned (.bool (decide (0 < (Sc.get s k).2))) ∧ Keeps (fun _ => False) w w' :=
  taway_of _ w (Sc.get s k) k ((peer_any w g b s k h).mono fun e w' h => ⟨_, h⟩)
theorem taway_none (w : World) (k : Int) : Calls Try.prog 20 #[.pointer none, .int .i64 k] w fun e w' => e = .returned (.bool false) ∧ Keeps (fun _ => False) w w' :=
  taway_of _ w (0, 0) k ((peer_none k w).mono fun e w' h => ⟨_, h⟩)
end Go.Proofs.Ytdihkbkcefjeoaa
