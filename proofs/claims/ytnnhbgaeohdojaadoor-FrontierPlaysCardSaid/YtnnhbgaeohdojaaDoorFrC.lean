/-
  The library's iterator from the back (slices.Backward), at hashes; a list of operations within a round.
-/
import Derived.RangeFuncNested
import Derived.RangeFuncBound
import Derived.RangeFuncCalls
import Derived.RangeFuncLeaves
import Derived.Shelf.Abstract
import Derived.Shelf.RegionOpen
import Derived.WalkKit
import Derived.OwnWalkIn
import Derived.TacticsInMore
import Derived.LoopNIn
import Derived.LoopIn
import Derived.Test.YtnnhbgaeohdojaaDoorFrB
namespace Go.Proofs.YtnnhbgaeohdojaaDoor
open Go.RowKit Go.BigFrame
set_option linter.unusedVariables false
attribute [local go_sem] Oper.semAt_some

/-- What is walked plainly goes in a round likewise. -/
theorem listIn_of_list {l n : Nat} {P : Program} {ops : Array Oper} {Q : Exit → Act → World → Prop} (hno : ¬ LetsOut Q) : ∀ (rest : List Oper) (a : Act) (w : World), (∀ o ∈ rest, ∀ c, o.op ≠ .defer c) → wpList P ops Q rest a w → wpListIn (Fence.wide.inRound l) n P ops Q rest a w
  | [], a, w, _, h => h
  | o :: rest, a, w, hd, h => by
    have ih := fun a w => listIn_of_list (l := l) (n := n) (P := P) (ops := ops) (Q := Q) hno rest a w (fun o ho => hd o (List.mem_cons_of_mem _ ho))
    unfold wpList at h
    unfold wpListIn
    split at h
    · rename_i hw
      rw [if_pos hw]
      refine ⟨fun _ _ => trivial, ?_⟩
      have hs : o.semAt (Fence.wide.inRound l).round a.eval = execOp a.eval o := Oper.semAt_some l a.eval o (hd o (List.mem_cons_self ..))
      rw [hs]
      replace h := h.resolve_right (fun hh => hno hh.2)
      unfold Oper.wp at h
      cases hr : (execOp a.eval o).run P w with
      | ok nx w' =>
        rw [hr] at h
        cases nx with
        | value v => exact ih _ _ h
        | skip => exact ih _ _ h
        | «defer» d => exact ih _ _ h
        | enter f args =>
          refine ⟨fun hh => (by simp [Fence.wide] at hh), ?_⟩
          refine CallsIn.inRound l (callsIn_wide.2 (Calls.mono h ?_))
          intro e w'' he
          cases e with
          | returned v => exact ih _ _ he
          | panicked ch => exact he
          | outgrown => exact he
        | row row args =>
          refine ⟨fun hh => (by simp [Fence.wide] at hh), fun c cs _ => ?_⟩
          obtain ⟨v, w2, h1, h2⟩ := h c cs
          exact ⟨v, w2, ih _ _ h1, stepsIn_wide.2 h2⟩
        | _ => exact h.elim
      | halt hl w' =>
        rw [hr] at h
        cases hl with
        | panic v => exact h
        | _ => exact h.elim
    · rename_i hw
      rw [if_neg hw]
      exact ⟨fun _ _ => trivial, ih _ _ h⟩
theorem wpListIn_load_mid {n : Nat} {P : Program} {ops : Array Oper} {rest : List Oper} {o : Oper} {a : Act} {w : World} {Q : Exit → Act → World → Prop} (hw : Region.wanted o (yielded ops a.tmps) = true) (ty : TypeId) (x : Operand) (ho : o.op = .load ty x)
    (b off : Nat) (hx : a.eval x = .pointer (some ⟨b, off, none⟩)) (cs : List Value) (d : TypeDesc) (hc : w.rangeAt b off cs) (hu : P.underlying ty = some d) (hd : d.isRow = true) (hi : (P.info? ty).map (·.size) = some cs.length)
    (h : wpListIn Fence.wide n P ops Q rest (a.put o.dst (.agg cs.toArray)) w) : wpListIn Fence.wide n P ops Q (o :: rest) a w := by
  refine wpListIn_step fun K hK => ?_
  rw [if_pos hw]
  refine ⟨fun _ _ => trivial, ?_⟩
  rw [show o.semAt Fence.wide.round a.eval = execOp a.eval o from Oper.semAt_none _ _]
  unfold execOp
  simp only [ho, hx, Sem.run_bind, Sem.run_pure, Result.andThen_ok, run_loadAt_mid w b off ty cs d hc hu hd hi]
  exact hK _ _ h
abbrev HX := { v : List UInt8 // v.length = 32 }
abbrev It := Nat × HX
def itEnc (x : It) : Array Value := #[.int .i64 (x.1 : Int), .agg (bvs x.2.1).toArray]
def hx0 : HX := ⟨List.replicate 32 0, by simp⟩
/-- What comes, from the back. -/
def item (qs : List HX) (k : Nat) : It := (qs.length - 1 - k, qs.getD (qs.length - 1 - k) hx0)
def upto (qs : List HX) (k : Nat) : List It := (List.range k).map (item qs)
theorem upto_succ (qs : List HX) (k : Nat) : upto qs (k + 1) = upto qs k ++ [item qs k] := by simp [upto, List.range_succ]
theorem upto_length (qs : List HX) (k : Nat) : (upto qs k).length = k := by simp [upto]
theorem backw_any (A : Option Addr) (n c : Nat) (w : World) : Calls Tryd.prog 58 #[.slice A n c] w fun e w' =>
    e = .returned (.func (.func 70) #[] #[.pointer (some ⟨w.heap.size, 0, none⟩)]) ∧ w' = w.alloc (.cells #[.slice A n c] 28) := by
  go_enter Tryd.func58, Tryd.ntmps58
  go_wp2
  go_ret
  exact ⟨rfl, rfl⟩
set_option maxRecDepth 100000 in
set_option maxHeartbeats 4000000 in
theorem back1_in (n : Nat) (l Bs : Nat) (A : Option Addr) (c : Nat) (qs : List HX) (Kp : World → World → Prop) (hKr : ∀ W, Kp W W) (hKt : ∀ {A B C : World}, Kp A B → Kp B C → Kp A C) (J Jx : List It → World → Prop)
    (hY : ∀ pre x W, J pre W → pre.length < qs.length → YieldAt Fence.wide (n - 1) Tryd.prog l (itEnc x) W fun e W' => (e = .returned (.bool true) ∧ J (pre ++ [x]) W' ∧ Kp W W') ∨ (e = .returned (.bool false) ∧ Jx (pre ++ [x]) W'))
    (W : World) (hK : ∀ V, Kp W V → V.cell? ⟨Bs, 0, none⟩ = some (.slice A qs.length c) ∧ PathAt V A (qs.map (·.1))) (hlen : qs.length ≤ 1000) (h0 : J [] W) :
    CallsIn Fence.wide n Tryd.prog 70 #[.func (.yield l) #[] #[], .pointer (some ⟨Bs, 0, none⟩)] W fun e W' => (∃ v, e = .returned v) ∧
      ((∃ ys, ys = upto qs qs.length ∧ J ys W') ∨ (∃ pre, True ∧ Jx pre W')) := by
  have hc0 := (hK W (hKr W)).1
  obtain ⟨m, hm⟩ : ∃ m, qs.length = m := ⟨_, rfl⟩
  have HM := Lib.hid hm
  rw [hm] at hc0 hlen hK hY ⊢
  have HK := Lib.hid hK
  have HY := Lib.hid hY
  clear hK hY hm
  refine callsIn_of_wp Tryd.func70 rfl trivial ?_ rfl
  simp only [Tryd.ntmps70, List.size_toArray, List.length_cons, List.length_nil, Nat.reduceAdd, Nat.reduceSub, Array.replicate_succ, Array.replicate_zero, List.push_toArray, List.append_toArray, List.nil_append, List.cons_append]
  gi_wp2
  gi_loopw [3] (fun i wr => ∃ k : Nat, k ≤ m ∧ i = .int .i64 ((m : Int) - 1 - (k : Int)) ∧ J (upto qs k) wr ∧ Kp W wr) (fun i _ => (intOf i + 1).toNat)
  case atStart => exact ⟨0, Nat.zero_le _, by go_num, h0, hKr W⟩
  case round =>
    clear hc0
    obtain ⟨k, hk, rfl, hJs, hkp⟩ := hrel
    by_cases hlt : k < m
    · obtain ⟨p, hp⟩ : ∃ p : Nat, m - 1 - k = p := ⟨_, rfl⟩
      have hpi : (m : Int) - 1 - (k : Int) = (p : Int) := by omega
      rw [hpi]
      obtain ⟨x, hx⟩ : ∃ x, qs.getD p hx0 = x := ⟨_, rfl⟩
      have hit : item qs k = (p, x) := by unfold item; rw [HM.out, hp, hx]
      have hget : (qs.map (·.1))[p]? = some x.1 := by
        rw [List.getElem?_map, ← hx, List.getD, List.getElem?_eq_getElem (by rw [HM.out]; omega)]
        rfl
      obtain ⟨hc1, hP⟩ := HK.out wr hkp
      obtain ⟨b, o, e, hrg⟩ := hP.lie p x.1 hget
      subst e
      obtain ⟨fn, tmps, assign, body, hy, hR⟩ := HY.out _ (p, x) wr hJs (by rw [upto_length]; exact hlt)
      unfold itEnc at hy
      dsimp only at hy
      have hsz : (Tryd.prog.info? 34).map (·.size) = some (bvs x.1).length := by rw [bvs_length, x.2]; exact size_hash'
      obtain ⟨R, hRR⟩ : ∃ R, bvs x.1 = R := ⟨_, rfl⟩
      rw [hRR] at hy hsz hrg
      have HSZ := Lib.hid hsz
      have HRG := Lib.hid hrg
      have hpm : (p : Int) < m := by omega
      clear hsz hrg hget hP
      gi_wp2_with (refine wpListIn_load_mid (by rfl) 34 (.tmp 15) (by rfl) b (o + p * 32) (by rfl) R _ HRG.out Tryd.underlying34 rfl HSZ.out ?_)
      refine ⟨fun hh => (by simp [Fence.wide] at hh), hR.mono ?_⟩
      rintro e W3 (⟨rfl, hJ3, hk3⟩ | ⟨rfl, hJx3⟩)
      · gi_wp2
        go_roundw
        case rel => exact ⟨k + 1, by omega, by rw [← hpi]; go_num, by rw [upto_succ, hit]; exact hJ3, hKt hkp hk3⟩
        case measure => simp [intOf]
      · gi_wp2
        refine bodyPost_ret (results_none rfl _ _ _) rfl ?_
        exact ⟨⟨_, rfl⟩, .inr ⟨_, trivial, hJx3⟩⟩
    · obtain rfl : k = m := by omega
      gi_wp2
      go_end0
      exact ⟨⟨_, rfl⟩, .inl ⟨_, rfl, hJs⟩⟩
/-- What the iterator's rounds keep: all but one block, and what lies beyond. -/
def KB (n₀ b4 : Nat) (W W' : World) : Prop := Keeps (fun k => k = b4 ∨ n₀ ≤ k) W W'
theorem kb_putObj {n₀ b4 : Nat} (W : World) (l : Nat) (o' : Obj) (hl : n₀ ≤ l) : KB n₀ b4 W (W.putObj l o') := ⟨rfl, rfl, rfl, by simp [World.putObj], fun k hk hs => World.putObj_heap_other (fun e => hs (.inr (by omega)))⟩
theorem kb_grown {n₀ b4 : Nat} {w W W' : World} {row : Option Nat} (h : KB n₀ b4 w W) (hg : W.grownBy W' row) (hr : ∀ r, row = some r → n₀ ≤ r) : KB n₀ b4 w W' := Keeps.grown h hg (fun k hk e => .inr (hr k e))
theorem back_stops (n Bs : Nat) (A : Option Addr) (c : Nat) (qs : List HX) (n₀ b4 : Nat) (w : World) (hn0 : w.heap.size = n₀) (hb4 : b4 < n₀) (hBs : Bs < n₀) (hne : Bs ≠ b4) (hc : w.cell? ⟨Bs, 0, none⟩ = some (.slice A qs.length c)) (w0 : World) (hP : PathAt w0 A (qs.map (·.1))) (hw0 : Keeps (fun _ => False) w0 w) (hb40 : w0.heap.size ≤ b4) (hlen : qs.length ≤ 1000) :
    SeqStopsK Fence.wide n Tryd.prog 70 #[.pointer (some ⟨Bs, 0, none⟩)] itEnc (KB n₀ b4) (fun ys => ys = upto qs qs.length) (fun _ => True) qs.length w := fun l J Jx W hW _ _ hY h0 => by
  have hWk : Keeps (fun _ => False) w W := Keeps.of_below hW
  refine back1_in n l Bs A c qs (KB n₀ b4) (fun W => Keeps.refl _ _) (fun h k => Keeps.trans h k) J Jx hY W (fun V hV => ?_) hlen h0
  have hk : Keeps (fun k => k = b4 ∨ n₀ ≤ k) w V := (hWk.mono (fun _ _ h => h.elim)).trans hV
  exact ⟨(hk.cell (p := ⟨Bs, 0, none⟩) (by show Bs < _; omega) (by show ¬ (Bs = b4 ∨ n₀ ≤ Bs); omega)).trans hc, hP.keeps ((hw0.mono (fun _ _ h => h.elim)).trans hk) (fun k hk h => by
    have := hw0.size
    omega)⟩
end Go.Proofs.YtnnhbgaeohdojaaDoor
