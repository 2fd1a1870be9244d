/-
  A log on a disk that may fail, as contracts for WalSure's walk.
-/
import Derived.Test.YtnhegnncmjmafaaWlSu
import Derived.Test.YtnhegnncmjmafaaWlTi
namespace Go.Proofs.Ytnhegnncmjmafaa
open Go.RowKit Go.BigFrame
set_option linter.unusedVariables false
set_option linter.unusedSimpArgs false
/-- A good log of k blocks an area on a disk of n: at most 4 m blocks are loose, its turn is at most t. -/
structure GI (l : Wl.St) (s : Dk.St) (k n m t : Nat) : Prop where
  gd : Wl.Gd l s
  k_ : l.k = k
  n_ : s.n = n
  turn : l.turn ≤ t
  loose : s.loose.length ≤ 4 * m
  short : ∀ r ∈ l.rows, r.length ≤ 600
/-- Whatever the fronts: behind a crash there is a good log, and of its rows this is known. -/
def Cr (s : Dk.St) (k n t : Nat) (P : List Wl.Bs → Prop) : Prop := ∀ f, ∃ l, GI l (Dk.cr s f) k n 0 t ∧ P l.rows ∧ l.sure = l.rows.length
theorem GI.more {l : Wl.St} {s : Dk.St} {k n m t m2 t2 : Nat} (h : GI l s k n m t) (hm : m ≤ m2) (ht : t ≤ t2) : GI l s k n m2 t2 :=
  ⟨h.gd, h.k_, h.n_, Nat.le_trans h.turn ht, by have := h.loose; omega, h.short⟩
theorem Cr.more {s : Dk.St} {k n t t2 : Nat} {P Q : List Wl.Bs → Prop} (h : Cr s k n t P) (ht : t ≤ t2) (hq : ∀ x, P x → Q x) : Cr s k n t2 Q := fun f => by
  obtain ⟨l, h1, h2, h3⟩ := h f
  exact ⟨l, h1.more (Nat.le_refl _) ht, hq _ h2, h3⟩
theorem GI.cr {l : Wl.St} {s : Dk.St} {k n m t : Nat} (h : GI l s k n m t) : Cr s k n t (fun x => x = l.rows.take l.sure) := fun f =>
  ⟨{ l with rows := l.rows.take l.sure, sure := (l.rows.take l.sure).length }, ⟨Wl.gd_cr h.gd f, h.k_, h.n_, h.turn, Nat.zero_le _, fun r hr => h.short r (List.mem_of_mem_take hr)⟩, rfl, rfl⟩
theorem GI.fresh (n : Nat) (h4 : 4 ≤ n) (h6 : n ≤ 65536) : GI ⟨(n - 2) / 2, 0, 0, [], 0, 0⟩ (Dk.fresh n) ((n - 2) / 2) n 0 0 :=
  ⟨Wl.gd_fresh n h4 h6, rfl, rfl, Nat.le_refl _, Nat.le_refl _, fun r hr => by cases hr⟩
theorem GI.fail {l : Wl.St} {s : Dk.St} {k n m t : Nat} (h : GI l s k n m t) (b : Bool) (v : Int) : GI l { s with fails := b, after := v } k n m t :=
  ⟨⟨h.gd.err, h.gd.dead, h.gd.dur.same rfl rfl, h.gd.all, h.gd.n⟩, h.k_, h.n_, h.turn, h.loose, h.short⟩
theorem sv_append (w : World) (F : Nat → Prop) (p g : Nat) (l : Wl.St) (s : Dk.St) (k n m t : Nat) (h : Wal w F p g l s) (gi : GI l s k n m t) (hm : m ≤ 220) (Ab : Option Addr) (cb : Nat) (bs : List UInt8) (hsb : Src w Ab (bvs bs)) (hcb : bs.length ≤ cb ∧ cb ≤ 9223372036854775807) (hb : bs.length ≤ 600) :
    Calls Try.prog 14 #[.pointer (some ⟨p, 0, none⟩), .slice Ab bs.length cb] w fun e w' => ∃ x l' s', e = .returned (.int .i64 x) ∧ Wal w' F p g l' s' ∧ Keeps F w w' ∧
      ((x = 0 ∧ l'.rows = l.rows ++ [bs] ∧ l'.sure = l.sure ∧ GI l' s' k n (m + 1) t) ∨ (x = 31 ∧ l' = l ∧ s' = s) ∨ (x = 30 ∧ s'.loose.length ≤ 950 ∧ Cr s' k n t (fun y => y = l.rows.take l.sure))) := by
  have hl := gi.loose
  have ha := append_any w F p g l s h Ab cb bs hsb hcb (by omega)
  by_cases hf : 256 * l.k < (Wl.hv l).length + (8 + bs.length)
  · have e : Wl.ap l s bs = (31, l, s) := by unfold Wl.ap; rw [if_neg (by rw [gi.gd.err]; exact fun h => h rfl), if_neg (by omega), if_pos hf]
    rw [e] at ha
    exact ha.mono (fun e w' h => ⟨31, l, s, h.1, h.2.1, h.2.2, .inr (.inl ⟨rfl, rfl, rfl⟩)⟩)
  · obtain ⟨s', hn, hlo, hh⟩ := Wl.gd_ap2 gi.gd h.ok bs (by omega) (by omega)
    have hl4 := ap_loose4 (l := l) (s := s) bs hb
    rcases hh with ⟨e, hg⟩ | ⟨e, hg⟩
    · rw [e] at ha hl4
      have hl5 : s'.loose.length ≤ s.loose.length + 4 := hl4
      exact ha.mono (fun e w' h => ⟨0, { l with rows := l.rows ++ [bs] }, s', h.1, h.2.1, h.2.2, .inl ⟨rfl, rfl, rfl, ⟨hg, gi.k_, hn.trans gi.n_, gi.turn, by omega, fun r hr => by
        rcases List.mem_append.1 hr with h1 | h1
        · exact gi.short r h1
        · rw [List.mem_singleton.1 h1]; exact hb⟩⟩⟩)
    · rw [e] at ha
      exact ha.mono (fun e w' h => ⟨30, { l with err := 30 }, s', h.1, h.2.1, h.2.2, .inr (.inr ⟨rfl, by omega, fun f => ⟨_, ⟨hg f, gi.k_, hn.trans gi.n_, gi.turn, Nat.zero_le _, fun r hr => gi.short r (List.mem_of_mem_take hr)⟩, rfl, rfl⟩⟩)⟩)
theorem sv_sync (w : World) (F : Nat → Prop) (p g : Nat) (l : Wl.St) (s : Dk.St) (k n m t : Nat) (h : Wal w F p g l s) (gi : GI l s k n m t) (hm : m ≤ 220) (ht : t ≤ 1000) :
    Calls Try.prog 15 #[.pointer (some ⟨p, 0, none⟩)] w fun e w' => ∃ x l' s', e = .returned (.int .i64 x) ∧ Wal w' F p g l' s' ∧ Keeps F w w' ∧
      ((x = 0 ∧ l'.rows = l.rows ∧ l'.sure = l.rows.length ∧ GI l' s' k n m (t + 1)) ∨ (x = 30 ∧ s'.loose.length ≤ 950 ∧ Cr s' k n (t + 1) (fun y => y = l.rows.take l.sure ∨ y = l.rows))) := by
  have hl := gi.loose
  have h1 := gi.turn
  have ha := wsync_any w F p g l s h (by omega) (by omega)
  obtain ⟨s', hn, hh⟩ := Wl.gd_sy2 gi.gd h.ok (by omega)
  rcases hh with ⟨T, e, hg, hT, hlo⟩ | ⟨e, hg⟩
  · rw [e] at ha
    exact ha.mono (fun e w' h => ⟨0, { l with turn := T, sure := l.rows.length }, s', h.1, h.2.1, h.2.2, .inl ⟨rfl, rfl, rfl, ⟨hg, gi.k_, hn.trans gi.n_, by show T ≤ t + 1; omega, Nat.le_trans hlo hl, gi.short⟩⟩⟩)
  · have hsl : s'.loose.length ≤ s.loose.length + 1 := by
      have e2 : s' = (Wl.sy l s).2.2 := by rw [e]
      have h2 := Wl.stamp_len l s l.area (Wl.hv l).length
      rw [e2]
      unfold Wl.sy
      split
      · show s.loose.length ≤ _; omega
      · split
        · show s.loose.length ≤ _; omega
        · simp only []
          split
          · show (Wl.stamp l s l.area (Wl.hv l).length).2.loose.length ≤ _; omega
          · show (Wl.stamp l s l.area (Wl.hv l).length).2.loose.length ≤ _; omega
    rw [e] at ha
    refine ha.mono (fun e w' h => ⟨30, { l with err := 30 }, s', h.1, h.2.1, h.2.2, .inr ⟨rfl, by omega, fun f => ?_⟩⟩)
    rcases hg f with hh | hh
    · exact ⟨_, ⟨hh, gi.k_, hn.trans gi.n_, by show l.turn ≤ t + 1; omega, Nat.zero_le _, fun r hr => gi.short r (List.mem_of_mem_take hr)⟩, .inl rfl, rfl⟩
    · exact ⟨_, ⟨hh, gi.k_, hn.trans gi.n_, by show l.turn + 1 ≤ t + 1; omega, Nat.zero_le _, gi.short⟩, .inr rfl, rfl⟩
theorem sv_compact (w : World) (F : Nat → Prop) (p g : Nat) (l : Wl.St) (s : Dk.St) (k n m t : Nat) (h : Wal w F p g l s) (gi : GI l s k n m t) (hm : m ≤ 220) (hk : k ≤ 19) (ht : t ≤ 1000) (Ar : Option Addr) (cr : Nat) (rs : List RowOf) (hR : RowsAt w Ar rs) (hN : rs.length ≤ 10) (h6 : ∀ r ∈ rs, r.2.2.length ≤ 600) :
    Calls Try.prog 17 #[.pointer (some ⟨p, 0, none⟩), .slice Ar rs.length cr] w fun e w' => ∃ x l' s', e = .returned (.int .i64 x) ∧ Wal w' F p g l' s' ∧ Keeps F w w' ∧
      ((x = 0 ∧ l'.rows = bsOf rs ∧ l'.sure = rs.length ∧ GI l' s' k n 0 (t + 1)) ∨ (x = 31 ∧ l' = l ∧ s' = s) ∨ (x = 30 ∧ s'.loose.length ≤ 950 ∧ Cr s' k n (t + 1) (fun y => y = l.rows.take l.sure ∨ y = bsOf rs))) := by
  have hl := gi.loose
  have h1 := gi.turn
  have hkk := gi.k_
  have hbl : (bsOf rs).length = rs.length := by unfold bsOf; rw [List.length_map]
  have hs6 : ∀ b ∈ bsOf rs, b.length ≤ 600 := fun b hb => by unfold bsOf at hb; obtain ⟨r, hr, rfl⟩ := List.mem_map.1 hb; exact h6 r hr
  have ha := wcompact_any w F p g l s h Ar cr rs hR (by omega) (by omega) (by omega)
  by_cases hf : 256 * l.k < (Wl.frames (bsOf rs)).length
  · have e : Wl.cp l s (bsOf rs) = (31, l, s) := by
      unfold Wl.cp
      rw [if_neg (by rw [gi.gd.err]; exact fun h => h rfl), if_neg (fun ⟨r, h3, h4⟩ => by have := hs6 r h3; omega), if_pos hf]
    rw [e] at ha
    exact ha.mono (fun e w' h => ⟨31, l, s, h.1, h.2.1, h.2.2, .inr (.inl ⟨rfl, rfl, rfl⟩)⟩)
  · obtain ⟨s', hn, hh⟩ := Wl.gd_cp2 gi.gd h.ok (by omega) (bsOf rs) (fun r hr => by have := hs6 r hr; omega) (by omega)
    rcases hh with ⟨e, hg, hlo⟩ | ⟨e, hlo, hg⟩
    · rw [e] at ha
      exact ha.mono (fun e w' h => ⟨0, { l with turn := l.turn + 1, area := 1 - l.area, rows := bsOf rs, sure := (bsOf rs).length }, s', h.1, h.2.1, h.2.2, .inl ⟨rfl, rfl, hbl, ⟨hg, gi.k_, hn.trans gi.n_, by show l.turn + 1 ≤ t + 1; omega, by rw [hlo]; exact Nat.zero_le _, hs6⟩⟩⟩)
    · rw [e] at ha
      refine ha.mono (fun e w' h => ⟨30, { l with err := 30 }, s', h.1, h.2.1, h.2.2, .inr (.inr ⟨rfl, by omega, fun f => ?_⟩)⟩)
      rcases hg f with hh | hh
      · exact ⟨_, ⟨hh, gi.k_, hn.trans gi.n_, by show l.turn ≤ t + 1; omega, Nat.zero_le _, fun r hr => gi.short r (List.mem_of_mem_take hr)⟩, .inl rfl, rfl⟩
      · exact ⟨_, ⟨hh, gi.k_, hn.trans gi.n_, by show l.turn + 1 ≤ t + 1; omega, Nat.zero_le _, hs6⟩, .inr rfl, rfl⟩
theorem sv_crash (w : World) (F : Nat → Prop) (p g : Nat) (l : Wl.St) (s : Dk.St) (k n t : Nat) (P : List Wl.Bs → Prop) (h : Wal w F p g l s) (hc : Cr s k n t P) (hl : s.loose.length ≤ 1000) (Af : Option Addr) (cf : Nat) (f : List UInt8) (hS : Src w Af (bvs f)) (hSF : ∀ a, Af = some a → 0 < f.length → ¬ F a.block) (hfl : f.length ≤ 9223372036854775807) :
    Calls Try.prog 18 #[.pointer (some ⟨g, 0, none⟩), .slice Af f.length cf] w fun e w' => ∃ l' s', e = .returned (.tuple #[]) ∧ P l'.rows ∧ l'.sure = l'.rows.length ∧ DskAt w' F g s' ∧ (∀ k, w'.heap.size ≤ k → F k) ∧ GI l' s' k n 0 t ∧ Keeps F w w' := by
  obtain ⟨l', h1, h2, h3⟩ := hc f
  exact (wal_crash w F p g l s h hl Af cf f hS hSF hfl).mono (fun e w' h => ⟨l', Dk.cr s f, h.1, h2, h3, h.2.1.disk, h.2.1.clo, h1, h.2.2⟩)
theorem sv_open (w : World) (F : Nat → Prop) (g : Nat) (l : Wl.St) (s : Dk.St) (k n m t : Nat) (hD : DskAt w F g s) (hF : ∀ k, w.heap.size ≤ k → F k) (gi : GI l s k n m t) (hs : l.sure = l.rows.length) (hk : k = (n - 2) / 2) (h4 : 4 ≤ n) :
    Calls Try.prog 11 #[.pointer (some ⟨g, 0, none⟩)] w fun e w' => ∃ p, e = .returned (.tuple #[.pointer (some ⟨p, 0, none⟩), .int .i64 0]) ∧ w.heap.size ≤ p ∧ Wal w' F p g l s ∧ Keeps (fun _ => False) w w' :=
  open_gd w F g s hD hF l gi.gd (by rw [gi.k_, gi.n_]; exact hk) (by rw [gi.n_]; exact h4) (fun r hr => by have := gi.short r hr; omega) hs
end Go.Proofs.Ytnhegnncmjmafaa
