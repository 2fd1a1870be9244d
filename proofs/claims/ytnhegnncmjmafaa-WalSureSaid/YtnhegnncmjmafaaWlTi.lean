/-
  A log in use: appends, syncs and crashes that go, as contracts for laws' walks.
-/
import Derived.Test.YtnhegnncmjmafaaWlSa
import Derived.Test.YtnhegnncmjmafaaWlAw
import Derived.Test.YtnhegnncmjmafaaDkV
import Derived.Test.YtnhegnncmjmafaaDkI
import Derived.Test.YtnhegnncmjmafaaRowU
namespace Go.Proofs.Ytnhegnncmjmafaa
open Go.RowKit Go.BigFrame
set_option linter.unusedVariables false
set_option linter.unusedSimpArgs false

theorem frames_few {b : Nat} : ∀ (rows : List Wl.Bs), (∀ r ∈ rows, r.length ≤ b) → (Wl.frames rows).length ≤ (8 + b) * rows.length
  | [], _ => Nat.zero_le _
  | r :: rows, h => by
    have ih := frames_few (b := b) rows (fun r hr => h r (List.mem_cons_of_mem _ hr))
    have h1 := h r (by simp)
    rw [Wl.frames_cons, List.length_append, Wl.frame_length, List.length_cons, Nat.mul_succ]
    omega
theorem ap_loose4 {l : Wl.St} {s : Dk.St} (b : Wl.Bs) (h6 : b.length ≤ 600) : (Wl.ap l s b).2.2.loose.length ≤ s.loose.length + 4 := by
  obtain ⟨c, hc⟩ : ∃ c, (Wl.hv l ++ Wl.frame b).drop (256 * ((Wl.hv l).length / 256)) = c := ⟨_, rfl⟩
  have hcl : c.length = (Wl.hv l).length + (8 + b.length) - 256 * ((Wl.hv l).length / 256) := by rw [← hc, List.length_drop, List.length_append, Wl.frame_length]
  have hnc : Wl.nch c ≤ 4 := by unfold Wl.nch; omega
  have h := Wl.wst_length s (2 + l.area * l.k + (Wl.hv l).length / 256) c (Wl.nch c)
  unfold Wl.ap
  split
  · show s.loose.length ≤ _; omega
  · split
    · show s.loose.length ≤ _; omega
    · split
      · show s.loose.length ≤ _; omega
      · simp only [hc]
        split
        · show (Wl.wst s _ c (Wl.nch c)).2.loose.length ≤ _; omega
        · show (Wl.wst s _ c (Wl.nch c)).2.loose.length ≤ _; omega
structure TI (l : Wl.St) (s : Dk.St) (k n m t : Nat) : Prop where
  gd : Wl.Gd l s
  calm : Wl.Calm s
  k_ : l.k = k
  n_ : s.n = n
  turn : l.turn ≤ t
  loose : s.loose.length ≤ 4 * m
  many : l.rows.length ≤ m
  short : ∀ r ∈ l.rows, r.length ≤ 600
theorem TI.fit {l : Wl.St} {s : Dk.St} {k n m t : Nat} (h : TI l s k n m t) : (Wl.hv l).length ≤ 608 * m := by
  have h1 := frames_few l.rows h.short
  have h2 := h.many
  have : 608 * l.rows.length ≤ 608 * m := Nat.mul_le_mul_left _ h2
  show (Wl.frames l.rows).length ≤ _
  omega
theorem TI.ap {l : Wl.St} {s : Dk.St} {k n m t : Nat} (h : TI l s k n m t) (ho : Wl.Ok l) (b : Wl.Bs) (hb : b.length ≤ 600) (hm : 608 * (m + 1) ≤ 256 * k) :
    ∃ s', Wl.ap l s b = (0, { l with rows := l.rows ++ [b] }, s') ∧ TI { l with rows := l.rows ++ [b] } s' k n (m + 1) t := by
  have hf := h.fit
  obtain ⟨s', e, g, c, n1, -⟩ := Wl.gd_ap h.gd ho h.calm b (by omega) (by rw [h.k_]; omega)
  have hl := ap_loose4 (l := l) (s := s) b hb
  rw [e] at hl
  refine ⟨s', e, ⟨g, c, h.k_, n1.trans h.n_, h.turn, ?_, ?_, ?_⟩⟩
  · have h1 := h.loose
    have h2 : s'.loose.length ≤ s.loose.length + 4 := hl
    omega
  · show (l.rows ++ [b]).length ≤ m + 1
    have h1 := h.many
    rw [List.length_append]
    simpa using h1
  · intro r hr
    rcases List.mem_append.1 hr with h1 | h1
    · exact h.short r h1
    · rw [List.mem_singleton.1 h1]; exact hb
theorem TI.sy {l : Wl.St} {s : Dk.St} {k n m t : Nat} (h : TI l s k n m t) (ho : Wl.Ok l) (ht : t ≤ 1000) :
    ∃ T s', Wl.sy l s = (0, { l with turn := T, sure := l.rows.length }, s') ∧ TI { l with turn := T, sure := l.rows.length } s' k n m (t + 1) := by
  have h1 := h.turn
  obtain ⟨T, s', e, g, c, n1, hl, hT⟩ := Wl.gd_sy h.gd ho h.calm (by omega)
  exact ⟨T, s', e, ⟨g, c, h.k_, n1.trans h.n_, by show T ≤ t + 1; omega, Nat.le_trans hl h.loose, h.many, h.short⟩⟩
theorem TI.cr {l : Wl.St} {s : Dk.St} {k n m t : Nat} (h : TI l s k n m t) (f : List UInt8) (m2 : Nat) (hm : (l.rows.take l.sure).length ≤ m2) :
    TI { l with rows := l.rows.take l.sure, sure := (l.rows.take l.sure).length } (Dk.cr s f) k n m2 t :=
  ⟨Wl.gd_cr h.gd f, ⟨rfl, rfl⟩, h.k_, h.n_, h.turn, by show 0 ≤ _; omega, hm, fun r hr => h.short r (List.mem_of_mem_take hr)⟩
theorem TI.fresh (n : Nat) (h4 : 4 ≤ n) (h6 : n ≤ 65536) : TI ⟨(n - 2) / 2, 0, 0, [], 0, 0⟩ (Dk.fresh n) ((n - 2) / 2) n 0 0 :=
  ⟨Wl.gd_fresh n h4 h6, ⟨rfl, rfl⟩, rfl, rfl, Nat.le_refl _, Nat.le_refl _, Nat.le_refl _, fun r hr => by cases hr⟩
theorem Wal.aside {S : Nat → Prop} {w w' : World} {F : Nat → Prop} {p g : Nat} {l : Wl.St} {s : Dk.St} (h : Wal w F p g l s) (hk : Keeps S w w') (hs : ∀ k, k < w.heap.size → F k → ¬ S k) : Wal w' (cutW F w.heap.size w'.heap.size) p g l s := by
  obtain ⟨FD, A, c, h⟩ := h
  exact ⟨cutW FD w.heap.size w'.heap.size, A, c, ⟨(h.log.mono (fun k hk hf => ⟨⟨hf.1, .inl hk⟩, fun hc => hf.2 hc.1⟩)).keeps hk (fun k hk hf => hs k hk hf.1.1), (h.dsk.mono (fun k hk hf => ⟨hf, .inl hk⟩)).keeps hk (fun k hk hf => hs k hk (h.sub k hf.1)), fun k hl => ⟨h.clo k (Nat.le_trans hk.size hl), .inr hl⟩, fun k hf => ⟨h.sub k hf.1, hf.2⟩⟩⟩
theorem tl_append (w : World) (F : Nat → Prop) (p g : Nat) (l : Wl.St) (s : Dk.St) (k n m t : Nat) (h : Wal w F p g l s) (ti : TI l s k n m t) (Ab : Option Addr) (cb : Nat) (bs : List UInt8) (hsb : Src w Ab (bvs bs)) (hcb : bs.length ≤ cb ∧ cb ≤ 9223372036854775807) (hb : bs.length ≤ 600) (hm : 608 * (m + 1) ≤ 256 * k) (hm2 : m ≤ 200) :
    Calls Try.prog 14 #[.pointer (some ⟨p, 0, none⟩), .slice Ab bs.length cb] w fun e w' => ∃ l' s', e = .returned (.int .i64 0) ∧ l'.rows = l.rows ++ [bs] ∧ l'.sure = l.sure ∧ Wal w' F p g l' s' ∧ TI l' s' k n (m + 1) t ∧ Keeps F w w' := by
  have hl := ti.loose
  obtain ⟨s', e, t2⟩ := ti.ap h.ok bs hb hm
  have ha := append_any w F p g l s h Ab cb bs hsb hcb (by omega)
  rw [e] at ha
  exact ha.mono (fun e w' h => ⟨{ l with rows := l.rows ++ [bs] }, s', h.1, rfl, rfl, h.2.1, t2, h.2.2⟩)
theorem tl_sync (w : World) (F : Nat → Prop) (p g : Nat) (l : Wl.St) (s : Dk.St) (k n m t : Nat) (h : Wal w F p g l s) (ti : TI l s k n m t) (hm : m ≤ 200) (ht : t ≤ 1000) :
    Calls Try.prog 15 #[.pointer (some ⟨p, 0, none⟩)] w fun e w' => ∃ l' s', e = .returned (.int .i64 0) ∧ l'.rows = l.rows ∧ l'.sure = l.rows.length ∧ Wal w' F p g l' s' ∧ TI l' s' k n m (t + 1) ∧ Keeps F w w' := by
  have hl := ti.loose
  have h1 := ti.turn
  obtain ⟨T, s', e, t2⟩ := ti.sy h.ok ht
  have ha := wsync_any w F p g l s h (by omega) (by omega)
  rw [e] at ha
  exact ha.mono (fun e w' h => ⟨{ l with turn := T, sure := l.rows.length }, s', h.1, rfl, rfl, h.2.1, t2, h.2.2⟩)
theorem tl_crash (w : World) (F : Nat → Prop) (p g : Nat) (l : Wl.St) (s : Dk.St) (k n m t m2 : Nat) (h : Wal w F p g l s) (ti : TI l s k n m t) (hm : m ≤ 200) (hm2 : (l.rows.take l.sure).length ≤ m2) (Af : Option Addr) (cf : Nat) (f : List UInt8) (hS : Src w Af (bvs f)) (hSF : ∀ a, Af = some a → 0 < f.length → ¬ F a.block) (hfl : f.length ≤ 9223372036854775807) :
    Calls Try.prog 18 #[.pointer (some ⟨g, 0, none⟩), .slice Af f.length cf] w fun e w' => ∃ l' s', e = .returned (.tuple #[]) ∧ l'.rows = l.rows.take l.sure ∧ l'.sure = l'.rows.length ∧ DskAt w' F g s' ∧ (∀ k, w'.heap.size ≤ k → F k) ∧ TI l' s' k n m2 t ∧ Keeps F w w' := by
  have hl := ti.loose
  exact (wal_crash w F p g l s h (by omega) Af cf f hS hSF hfl).mono (fun e w' h => ⟨{ l with rows := l.rows.take l.sure, sure := (l.rows.take l.sure).length }, Dk.cr s f, h.1, rfl, rfl, h.2.1.disk, h.2.1.clo, ti.cr f m2 hm2, h.2.2⟩)
theorem tl_open (w : World) (F : Nat → Prop) (g : Nat) (l : Wl.St) (s : Dk.St) (k n m t : Nat) (hD : DskAt w F g s) (hF : ∀ k, w.heap.size ≤ k → F k) (ti : TI l s k n m t) (hs : l.sure = l.rows.length) (hk : k = (n - 2) / 2) (h4 : 4 ≤ n) :
    Calls Try.prog 11 #[.pointer (some ⟨g, 0, none⟩)] w fun e w' => ∃ p, e = .returned (.tuple #[.pointer (some ⟨p, 0, none⟩), .int .i64 0]) ∧ Wal w' F p g l s ∧ Keeps (fun _ => False) w w' :=
  (open_gd w F g s hD hF l ti.gd (by rw [ti.k_, ti.n_]; exact hk) (by rw [ti.n_]; exact h4) (fun r hr => by have := ti.short r hr; omega) hs).mono (fun e w' h => by obtain ⟨p, h1, _, h3, h4⟩ := h; exact ⟨p, h1, h3, h4⟩)
theorem tl_records (w : World) (F : Nat → Prop) (p g : Nat) (l : Wl.St) (s : Dk.St) (h : Wal w F p g l s) (n : Nat) (hn : l.rows.length = n) :
    Calls Try.prog 20 #[.pointer (some ⟨p, 0, none⟩)] w fun e w' => ∃ A c rs, e = .returned (.slice A n c) ∧ rs.length = n ∧ bsOf rs = l.rows ∧ RowsAt w' A rs ∧ Keeps (fun _ => False) w w' := by
  subst hn
  refine (wrecords_any w F p g l h.log).mono ?_
  rintro e w' ⟨A, c, rs, h1, h2, h3, h4⟩
  exact ⟨A, c, rs, h1, by rw [← h2]; unfold bsOf; rw [List.length_map], h2, h3.at_, h4⟩
end Go.Proofs.Ytnhegnncmjmafaa
