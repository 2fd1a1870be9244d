/-
  The document's own disk: each call as one function of the disk's state.
-/
import Derived.Test.YtonokeldlknadaaRkG
namespace Go.Proofs.Ytonokeldlknadaa
open Go.RowKit Go.BigFrame
set_option linter.unusedVariables false

def Dk.rf (s : Dk.St) : Int := if s.fails = true then s.after else -1
theorem Dk.goes_iff (s : Dk.St) : Dk.goes s = false ↔ s.fails = true ∧ s.after = 0 := by
  unfold Dk.goes
  cases s.fails <;> simp
theorem Dk.rf_zero {s : Dk.St} (h : Dk.goes s = false) : Dk.rf s = 0 := by
  obtain ⟨h1, h2⟩ := (Dk.goes_iff s).1 h
  unfold Dk.rf
  rw [if_pos h1, h2]
theorem Dk.rf_ne {s : Dk.St} (h : Dk.goes s = true) : Dk.rf s ≠ 0 := by
  unfold Dk.rf
  split
  · rename_i hf
    intro h0
    have := (Dk.goes_iff s).2 ⟨hf, h0⟩
    rw [this] at h
    cases h
  · decide
theorem Dk.rf_le {s : Dk.St} (h : Dk.Ok s) : Dk.rf s ≤ 9223372036854775807 := by
  unfold Dk.rf
  split
  · exact h.wf.2
  · decide
theorem Dk.rf_cnt {s : Dk.St} (h : Dk.Ok s) (hg : Dk.goes s = true) : Dk.rf (Dk.cnt s) = cf (Dk.rf s) := by
  have hne := Dk.rf_ne hg
  unfold Dk.rf at *
  rw [Dk.cnt_fails]
  by_cases hf : s.fails = true
  · rw [if_pos hf] at *
    have := h.aft hf
    rw [if_pos hf]
    unfold cf Dk.cnt
    rw [if_pos hf, if_neg hne, if_pos (by omega)]
  · rw [if_neg hf, if_neg hf]
    rfl
def cut (F : Nat → Prop) (a b : Nat) : Nat → Prop := fun k => F k ∧ (k < a ∨ b ≤ k)
theorem cut_sub {F : Nat → Prop} {a b k : Nat} (h : cut F a b k) : F k := h.1
/-- The document's disk in a state: a value; its rows are none of F. -/
def RefV (w : World) (F : Nat → Prop) (v : Value) (s : Dk.St) : Prop :=
  ∃ A c A2 c2, v = .agg (rrow A s.n c A2 s.loose.length c2 (Dk.rf s) s.dead).toArray ∧ w.ownsRow 0 9 1 (.slice A s.n c) s.n (svals (gl s.n s.good)) ∧ w.ownsRow 0 67 2 (.slice A2 s.loose.length c2) s.loose.length (lcells s.loose) ∧
    (∀ k, (Value.slice A s.n c).ownBlock = some k → ¬ F k) ∧ (∀ k, (Value.slice A2 s.loose.length c2).ownBlock = some k → ¬ F k)
theorem RefV.keeps {w w' : World} {F : Nat → Prop} {v : Value} {s : Dk.St} (h : RefV w F v s) (hk : Keeps F w w') : RefV w' F v s := by
  obtain ⟨A, c, A2, c2, h1, h2, h3, h4, h5⟩ := h
  exact ⟨A, c, A2, c2, h1, hk.owns h2 h4, hk.owns h3 h5, h4, h5⟩
theorem RefV.later {w w' : World} {F : Nat → Prop} {v : Value} {s : Dk.St} (h : RefV w F v s) (hk : Keeps (fun _ => False) w w') : RefV w' F v s := by
  obtain ⟨A, c, A2, c2, h1, h2, h3, h4, h5⟩ := h
  exact ⟨A, c, A2, c2, h1, hk.owns h2 (fun _ _ => id), hk.owns h3 (fun _ _ => id), h4, h5⟩
theorem RefV.mono {w : World} {F G : Nat → Prop} {v : Value} {s : Dk.St} (h : RefV w F v s) (hs : ∀ k, G k → F k) : RefV w G v s := by
  obtain ⟨A, c, A2, c2, h1, h2, h3, h4, h5⟩ := h
  exact ⟨A, c, A2, c2, h1, h2, h3, fun k hk hg => h4 k hk (hs k hg), fun k hk hg => h5 k hk (hs k hg)⟩
theorem RefV.make {w : World} {F : Nat → Prop} {A A2 : Option Addr} {n c m c2 : Nat} {f : Int} {d : Bool} {g : Nat → List UInt8} {ls : List (Nat × List UInt8)} (s : Dk.St) (h1 : s.n = n) (h2 : s.good = g) (h3 : s.loose = ls) (h4 : ls.length = m) (h5 : Dk.rf s = f) (h6 : s.dead = d)
    (ho : w.ownsRow 0 9 1 (.slice A n c) n (svals (gl n g))) (hl : w.ownsRow 0 67 2 (.slice A2 m c2) m (lcells ls)) (hA : ∀ k, (Value.slice A n c).ownBlock = some k → ¬ F k) (hA2 : ∀ k, (Value.slice A2 m c2).ownBlock = some k → ¬ F k) :
    RefV w F (.agg (rrow A n c A2 m c2 f d).toArray) s := by
  subst h1 h2 h3 h4 h5 h6
  exact ⟨A, c, A2, c2, rfl, ho, hl, hA, hA2⟩
theorem out_new {w w' : World} {F : Nat → Prop} {e : TypeId} {size n : Nat} {v : Value} {xs : List Value} (h : w'.ownsRow w.heap.size e size v n xs) : ∀ k, v.ownBlock = some k → ¬ cut F w.heap.size w'.heap.size k := by
  intro k hk hc
  have h1 := (h.lt k hk).1
  have h2 := (h.lt k hk).2
  rcases hc.2 with h | h <;> omega
theorem out_old {F : Nat → Prop} {a b : Nat} {v : Value} (h : ∀ k, v.ownBlock = some k → ¬ F k) : ∀ k, v.ownBlock = some k → ¬ cut F a b k := fun k hk hc => h k hk hc.1
theorem out_oldnew {w w' : World} {F : Nat → Prop} {e : TypeId} {size n : Nat} {u v : Value} {xs : List Value} (h : w'.ownsRow 0 e size v n xs) (hu : ∀ k, u.ownBlock = some k → ¬ F k) (ho : OldNew w u v) : ∀ k, v.ownBlock = some k → ¬ cut F w.heap.size w'.heap.size k := by
  intro k hk hc
  rcases ho with h1 | ⟨k2, h2, h3⟩
  · exact hu k (by rw [← h1]; exact hk) hc.1
  · rw [hk] at h3
    injection h3 with h3
    have h4 := (h.lt k hk).2
    rcases hc.2 with h | h <;> omega
/-- Write. -/
theorem rwr_any (w : World) (F : Nat → Prop) (v : Value) (s : Dk.St) (h : RefV w F v s) (hok : Dk.Ok s) (hm : s.loose.length ≤ 1000) (i : Int) (b : List UInt8) :
    Calls Try.prog 14 #[v, .int .i64 i, .string (strOf b)] w fun e w' => ∃ v', e = .returned (.tuple #[v', .int .i64 (Dk.wrE s i b.length)]) ∧ RefV w' (cut F w.heap.size w'.heap.size) v' (Dk.wr s i b.length b) ∧ Keeps (fun _ => False) w w' := by
  have hsame : ∀ w', Keeps (fun _ => False) w w' → RefV w' (cut F w.heap.size w'.heap.size) v s := fun w' hk => (h.later hk).mono (fun k hk => hk.1)
  obtain ⟨A, c, A2, c2, rfl, h2, h3, h4, h5⟩ := h
  by_cases h0 : Dk.atE s i = 0
  · obtain ⟨hd, hi0, hlt, hie⟩ := Dk.atE_zero h0
    have hn0 : ¬ Dk.atE s i ≠ 0 := fun h => h h0
    rw [hd] at hsame ⊢
    by_cases hl : b.length = 256
    · have hl0 : ¬ b.length ≠ 256 := fun h => h hl
      have hE : Dk.wrE s i b.length = Dk.cntE s := by unfold Dk.wrE; rw [if_neg hn0, if_neg hl0]
      rw [hE]
      cases hg : Dk.goes s with
      | false =>
        have hw : Dk.wr s i b.length b = { s with dead := true } := by
          unfold Dk.wr
          rw [if_neg (fun h => h.elim hn0 hl0), hg, if_neg (by decide), Dk.cnt_down s hg]
        have hc : Dk.cntE s = 30 := by unfold Dk.cntE; rw [hg, if_neg (by decide)]
        rw [hw, hc, Dk.rf_zero hg]
        refine (rwrite_down A s.n c A2 s.loose.length c2 i (strOf b) ⟨hi0, by omega⟩ (by rw [strOf_size]; exact hl) w).mono ?_
        rintro e w' ⟨rfl, hk⟩
        exact ⟨_, rfl, RefV.make _ rfl rfl rfl rfl (Dk.rf_zero (s := { s with dead := true }) hg) rfl (hk.owns h2 (fun _ _ => id)) (hk.owns h3 (fun _ _ => id)) (out_old h4) (out_old h5), hk⟩
      | true =>
        have hw : Dk.wr s i b.length b = { Dk.cnt s with loose := s.loose ++ [(i.toNat, b)] } := by
          unfold Dk.wr
          rw [if_neg (fun h => h.elim hn0 hl0), hg, if_pos rfl]
        have hc : Dk.cntE s = 0 := by unfold Dk.cntE; rw [hg, if_pos rfl]
        rw [hw, hc]
        have hr := rwrite_ok A s.n c A2 s.loose.length c2 (Dk.rf s) i.toNat b s.loose (Dk.rf_ne hg) (Dk.rf_le hok) hlt hl w h3 hm
        rw [← hie] at hr
        refine hr.mono ?_
        rintro e w' ⟨A3, c3, rfl, ho, hk⟩
        exact ⟨_, rfl, RefV.make _ (Dk.cnt_n s) (Dk.cnt_good s) rfl (by simp) (Dk.rf_cnt hok hg) ((Dk.cnt_dead s hg).trans hd) (hk.owns h2 (fun _ _ => id)) (own_base ho (Nat.zero_le _)) (out_old h4) (out_new ho), hk⟩
    · have hE : Dk.wrE s i b.length = 1 := by unfold Dk.wrE; rw [if_neg hn0, if_pos hl]
      have hw : Dk.wr s i b.length b = s := by unfold Dk.wr; rw [if_pos (.inr hl)]
      rw [hE, hw]
      refine (rwrite_arg A s.n c A2 s.loose.length c2 (Dk.rf s) i (strOf b) ⟨hi0, by omega⟩ (by rw [strOf_size]; exact hl) w).mono ?_
      rintro e w' ⟨rfl, hk⟩
      exact ⟨_, rfl, hsame w' hk, hk⟩
  · have hE : Dk.wrE s i b.length = Dk.atE s i := by unfold Dk.wrE; rw [if_pos h0]
    have hw : Dk.wr s i b.length b = s := by unfold Dk.wr; rw [if_pos (.inl h0)]
    rw [hE, hw]
    cases hd : s.dead with
    | true =>
      rw [hd] at hsame
      have e : Dk.atE s i = 30 := by unfold Dk.atE; rw [hd, if_pos rfl]
      rw [e]
      refine (rwrite_dead A s.n c A2 s.loose.length c2 (Dk.rf s) i (strOf b) w).mono ?_
      rintro e w' ⟨rfl, hk⟩
      exact ⟨_, rfl, hsame w' hk, hk⟩
    | false =>
      rw [hd] at hsame
      have hr : i < 0 ∨ (s.n : Int) ≤ i := by
        by_cases hh : i < 0 ∨ (s.n : Int) ≤ i
        · exact hh
        · exfalso; apply h0; unfold Dk.atE; rw [hd, if_neg (by decide), if_neg hh]
      have e : Dk.atE s i = 15 := by unfold Dk.atE; rw [hd, if_neg (by decide), if_pos hr]
      rw [e]
      rcases hr with hr | hr
      · refine (rwrite_low A s.n c A2 s.loose.length c2 (Dk.rf s) i (strOf b) hr w).mono ?_
        rintro e w' ⟨rfl, hk⟩
        exact ⟨_, rfl, hsame w' hk, hk⟩
      · refine (rwrite_high A s.n c A2 s.loose.length c2 (Dk.rf s) i (strOf b) hr w).mono ?_
        rintro e w' ⟨rfl, hk⟩
        exact ⟨_, rfl, hsame w' hk, hk⟩
/-- Sync. -/
theorem rsy_any (w : World) (F : Nat → Prop) (v : Value) (s : Dk.St) (h : RefV w F v s) (hok : Dk.Ok s) (hn : s.n ≤ 1000) (hm : s.loose.length ≤ 1000) :
    Calls Try.prog 16 #[v] w fun e w' => ∃ v', e = .returned (.tuple #[v', .int .i64 (Dk.syE s)]) ∧ RefV w' (cut F w.heap.size w'.heap.size) v' (Dk.sy s) ∧ Keeps (fun _ => False) w w' := by
  have hsame : ∀ w', Keeps (fun _ => False) w w' → RefV w' (cut F w.heap.size w'.heap.size) v s := fun w' hk => (h.later hk).mono (fun k hk => hk.1)
  obtain ⟨A, c, A2, c2, rfl, h2, h3, h4, h5⟩ := h
  cases hd : s.dead with
  | true =>
    rw [hd] at hsame
    have hE : Dk.syE s = 30 := by unfold Dk.syE; rw [if_pos hd]
    have hw : Dk.sy s = s := by unfold Dk.sy; rw [if_pos hd]
    rw [hE, hw]
    refine (rsync_dead A s.n c A2 s.loose.length c2 (Dk.rf s) w).mono ?_
    rintro e w' ⟨rfl, hk⟩
    exact ⟨_, rfl, hsame w' hk, hk⟩
  | false =>
    have hd0 : ¬ s.dead = true := by rw [hd]; decide
    have hE : Dk.syE s = Dk.cntE s := by unfold Dk.syE; rw [if_neg hd0]
    rw [hE]
    cases hg : Dk.goes s with
    | false =>
      have hw : Dk.sy s = { s with dead := true } := by unfold Dk.sy; rw [if_neg hd0, hg, if_neg (by decide), Dk.cnt_down s hg]
      have hc : Dk.cntE s = 30 := by unfold Dk.cntE; rw [hg, if_neg (by decide)]
      rw [hw, hc, Dk.rf_zero hg]
      refine (rsync_down A s.n c A2 s.loose.length c2 w).mono ?_
      rintro e w' ⟨rfl, hk⟩
      exact ⟨_, rfl, RefV.make _ rfl rfl rfl rfl (Dk.rf_zero (s := { s with dead := true }) hg) rfl (hk.owns h2 (fun _ _ => id)) (hk.owns h3 (fun _ _ => id)) (out_old h4) (out_old h5), hk⟩
    | true =>
      have hw : Dk.sy s = { Dk.cnt s with good := Dk.over s.good s.loose, loose := [] } := by unfold Dk.sy; rw [if_neg hd0, hg, if_pos rfl]
      have hc : Dk.cntE s = 0 := by unfold Dk.cntE; rw [hg, if_pos rfl]
      rw [hw, hc]
      refine (rsync_ok A s.n c A2 s.loose.length c2 (Dk.rf s) s.good s.loose (Dk.rf_ne hg) (Dk.rf_le hok) w h2 h3 (fun p hp => (hok.loose p hp).1) hn hm).mono ?_
      rintro e w' ⟨A', c', rfl, ho, hon, hk⟩
      exact ⟨_, rfl, RefV.make _ (Dk.cnt_n s) rfl rfl rfl (Dk.rf_cnt hok hg) ((Dk.cnt_dead s hg).trans hd) ho (World.ownsRow_nil _ _ _ _) (out_oldnew ho h4 hon) (fun k hk => by cases hk), hk⟩
/-- Fail. -/
theorem rfa_any (w : World) (F : Nat → Prop) (v : Value) (s : Dk.St) (h : RefV w F v s) (a : Int) :
    Calls Try.prog 18 #[v, .int .i64 a] w fun e w' => ∃ v', e = .returned v' ∧ RefV w' (cut F w.heap.size w'.heap.size) v' { s with fails := decide (0 ≤ a), after := a } ∧ Keeps (fun _ => False) w w' := by
  obtain ⟨A, c, A2, c2, rfl, h2, h3, h4, h5⟩ := h
  by_cases ha : 0 ≤ a
  · refine (rfail_pos A s.n c A2 s.loose.length c2 (Dk.rf s) s.dead a ha w).mono ?_
    rintro e w' ⟨rfl, hk⟩
    exact ⟨_, rfl, RefV.make _ rfl rfl rfl rfl (by unfold Dk.rf; rw [if_pos (by simpa using ha)]) rfl (hk.owns h2 (fun _ _ => id)) (hk.owns h3 (fun _ _ => id)) (out_old h4) (out_old h5), hk⟩
  · refine (rfail_neg A s.n c A2 s.loose.length c2 (Dk.rf s) s.dead a (by omega) w).mono ?_
    rintro e w' ⟨rfl, hk⟩
    exact ⟨_, rfl, RefV.make _ rfl rfl rfl rfl (by unfold Dk.rf; rw [if_neg (by simpa using ha)]) rfl (hk.owns h2 (fun _ _ => id)) (hk.owns h3 (fun _ _ => id)) (out_old h4) (out_old h5), hk⟩
/-- Crash. -/
theorem rcr_any (w : World) (F : Nat → Prop) (v : Value) (s : Dk.St) (h : RefV w F v s) (hok : Dk.Ok s) (hn : s.n ≤ 1000) (hm : s.loose.length ≤ 1000) (fs : List UInt8) (hfs : fs.length ≤ 1000) :
    Calls Try.prog 20 #[v, .string (strOf fs)] w fun e w' => ∃ v', e = .returned v' ∧ RefV w' (cut F w.heap.size w'.heap.size) v' (Dk.cr s fs) ∧ Keeps (fun _ => False) w w' := by
  obtain ⟨A, c, A2, c2, rfl, h2, h3, h4, h5⟩ := h
  refine (rcrash_any A s.n c A2 s.loose.length c2 (Dk.rf s) s.dead s.good s.loose fs w h2 h3 (fun p hp => hok.loose p hp) hok.good hn hm hfs).mono ?_
  rintro e w' ⟨A', c', rfl, ho, hon, hk⟩
  exact ⟨_, rfl, RefV.make _ rfl rfl rfl rfl rfl rfl ho (World.ownsRow_nil _ _ _ _) (out_oldnew ho h4 hon) (fun k hk => by cases hk), hk⟩
/-- New. -/
theorem rne_any (n : Nat) (h1 : 1 ≤ n) (hn : n ≤ 1000) (w : World) (F : Nat → Prop) :
    Calls Try.prog 11 #[.int .i64 (n : Int)] w fun e w' => ∃ v', e = .returned (.tuple #[v', .int .i64 0]) ∧ RefV w' (cut F w.heap.size w'.heap.size) v' (Dk.fresh n) ∧ Keeps (fun _ => False) w w' := by
  refine (rnew_ok n h1 hn w).mono ?_
  rintro e w' ⟨A', c', rfl, ho, hon, hk⟩
  exact ⟨_, rfl, RefV.make (Dk.fresh n) rfl rfl rfl rfl rfl rfl ho (World.ownsRow_nil _ _ _ _) (fun k hb hc => by
    have h3 := hon k hb
    have h4 := (ho.lt k hb).2
    rcases hc.2 with h | h <;> omega) (fun k hk => by cases hk), hk⟩
/-- alike. -/
theorem alike_ref (w : World) (F G : Nat → Prop) (g : Nat) (v : Value) (s : Dk.St) (h : DskAt w F g s) (hv : RefV w G v s) (hn : s.n ≤ 1000) (hm : s.loose.length ≤ 1000) :
    Calls Try.prog 21 #[.pointer (some ⟨g, 0, none⟩), v] w fun e w' => e = .returned (.bool true) ∧ Keeps (fun _ => False) w w' := by
  obtain ⟨A, c, A2, c2, rfl, h2, h3, _, _⟩ := hv
  exact alike_any A c A2 c2 (Dk.rf s) s hn hm F g w h h2 h3
end Go.Proofs.Ytonokeldlknadaa
