/-
  WalSure's walk: the law's texts, the act, the log and its disk, as they stand between two statements.
-/
import Derived.Test.YtnhegnncmjmafaaWlSv
import Derived.Test.YtnhegnncmjmafaaWlSb
import Derived.Test.YtnhegnncmjmafaaWlOw
import Derived.Test.YtnhegnncmjmafaaOpenSu
namespace Go.Proofs.Ytnhegnncmjmafaa
open Go.RowKit Go.BigFrame
set_option linter.unusedVariables false
set_option linter.unusedSimpArgs false
/-- A slice of the law's own that holds these rows as strings, beside the blocks F. -/
structure Tx (V : World) (B : Nat) (F : Nat → Prop) (A : Option Addr) (n c : Nat) (R : List Wl.Bs) : Prop where
  own : V.ownsRow B 9 1 (.slice A n c) n (svals12 R)
  len : R.length = n
  out : ∀ k, (Value.slice A n c).ownBlock = some k → ¬ F k
theorem Tx.keeps {S : Nat → Prop} {V V' : World} {B : Nat} {F G : Nat → Prop} {A : Option Addr} {n c : Nat} {R : List Wl.Bs} (h : Tx V B F A n c R) (hk : Keeps S V V') (hs : ∀ k, S k → F k) (hg : ∀ k, G k → F k) : Tx V' B G A n c R :=
  ⟨hk.owns h.own (fun k hv e => h.out k hv (hs k e)), h.len, fun k hv e => h.out k hv (hg k e)⟩
/-- The law's two texts: all records, those that are sure, and where they lie. -/
structure TxAt (V : World) (B : Nat) (F : Nat → Prop) (l : Wl.St) (Aa : Option Addr) (na ca : Nat) (As : Option Addr) (ns cs : Nat) : Prop where
  all : Tx V B F Aa na ca l.rows
  sur : Tx V B F As ns cs (l.rows.take l.sure)
  sure : l.sure = ns
  le : ns ≤ na
  apart : (As = Aa ∧ cs = ca) ∨ ∀ k, (Value.slice As ns cs).ownBlock = some k → (Value.slice Aa na ca).ownBlock ≠ some k
theorem TxAt.keeps {S : Nat → Prop} {V V' : World} {B : Nat} {F G : Nat → Prop} {l : Wl.St} {Aa As : Option Addr} {na ca ns cs : Nat} (h : TxAt V B F l Aa na ca As ns cs) (hk : Keeps S V V') (hs : ∀ k, S k → F k) (hg : ∀ k, G k → F k) : TxAt V' B G l Aa na ca As ns cs :=
  ⟨h.all.keeps hk hs hg, h.sur.keeps hk hs hg, h.sure, h.le, h.apart⟩
theorem TxAt.nil (V : World) (B : Nat) (F : Nat → Prop) (l : Wl.St) (h : l.rows = []) (h2 : l.sure = 0) : TxAt V B F l none 0 0 none 0 0 := by
  refine ⟨⟨by rw [h]; exact World.ownsRow_nil _ _ _ _, by rw [h]; rfl, fun k hv => (by cases hv)⟩, ⟨by rw [h]; simpa [svals12] using World.ownsRow_nil _ _ _ _, by rw [h, h2]; rfl, fun k hv => (by cases hv)⟩, h2, Nat.le_refl _, .inl ⟨rfl, rfl⟩⟩
theorem TxAt.both {V : World} {B : Nat} {F : Nat → Prop} {l : Wl.St} {A : Option Addr} {n c : Nat} (h : Tx V B F A n c l.rows) (hs : l.sure = l.rows.length) : TxAt V B F l A n c A n c :=
  ⟨h, by rw [hs, List.take_of_length_le (Nat.le_refl _)]; exact h, hs.trans h.len, Nat.le_refl _, .inl ⟨rfl, rfl⟩⟩
theorem TxAt.append {W V V3 : World} {B : Nat} {F : Nat → Prop} {l l2 : Wl.St} {Aa As A3 : Option Addr} {na ca ns cs c3 : Nat} (h : TxAt W B F l Aa na ca As ns cs) (b : Wl.Bs) (hr : l2.rows = l.rows ++ [b]) (hs : l2.sure = l.sure) (k1 : Keeps (fun _ => False) W V)
    (ho : V3.ownsRow B 9 1 (.slice A3 (na + 1) c3) (na + 1) (svals12 l.rows ++ [.string (strOf b)]))
    (hc : (A3 = Aa ∧ c3 = ca ∧ (∃ g, Aa = some ⟨g, 0, none⟩) ∧ V.grownBy V3 (Value.slice Aa na ca).ownBlock) ∨ ((Value.slice A3 (na + 1) c3).ownBlock = some V.heap.size ∧ V.grownBy V3 none)) :
    Keeps (fun k => (Value.slice Aa na ca).ownBlock = some k) W V3 ∧ TxAt V3 B (cutW F W.heap.size V3.heap.size) l2 A3 (na + 1) c3 As ns cs := by
  have hlen : l2.rows.length = na + 1 := by rw [hr, List.length_append, h.all.len]; rfl
  have htk : l2.rows.take l2.sure = l.rows.take l.sure := by
    rw [hr, hs, List.take_append_of_le_length (by rw [h.all.len, h.sure]; exact h.le)]
  have hoo : V3.ownsRow B 9 1 (.slice A3 (na + 1) c3) (na + 1) (svals12 l2.rows) := by rw [hr, ← svals12_snoc]; exact ho
  have hW := k1.size
  have ofs : ∀ k, (Value.slice As ns cs).ownBlock = some k → k < W.heap.size := fun k hv => (h.sur.own.lt k hv).2
  rcases hc with ⟨e1, e2, ⟨g, e3⟩, hg⟩ | ⟨e1, hg⟩
  · subst e1 e2
    have kk : Keeps (fun k => (Value.slice A3 na c3).ownBlock = some k) W V3 := (k1.mono (fun _ _ h => h.elim)).trans ((Keeps.refl _ _).grown hg (fun _ _ h => h))
    refine ⟨kk, ⟨hoo, hlen, fun k hv hf => h.all.out k (by subst e3; exact hv) hf.1⟩, ?_, hs.trans h.sure, Nat.le_trans h.le (Nat.le_succ _), ?_⟩
    · rw [htk]
      refine ⟨?_, h.sur.len, fun k hv hf => h.sur.out k hv hf.1⟩
      rcases h.apart with ⟨e4, e5⟩ | ha
      · subst e4 e5
        have := own_front12 hoo ns (Nat.le_trans h.le (Nat.le_succ _))
        have e6 : (svals12 l2.rows).take ns = svals12 (l.rows.take l.sure) := by rw [← htk, hs, h.sure]; unfold svals12; rw [List.map_take]
        rw [e6] at this
        exact this
      · exact kk.owns h.sur.own (fun k hv e => ha k hv e)
    · rcases h.apart with ⟨e4, e5⟩ | ha
      · exact .inl ⟨e4, e5⟩
      · exact .inr (fun k hv e => ha k hv (by subst e3; exact e))
  · have kk : Keeps (fun _ => False) W V3 := k1.trans ((Keeps.refl _ _).grown hg (fun _ _ h => by cases h))
    refine ⟨kk.mono (fun _ _ h => h.elim), ⟨hoo, hlen, fun k hv hf => ?_⟩, ?_, hs.trans h.sure, Nat.le_trans h.le (Nat.le_succ _), .inr (fun k hv e => ?_)⟩
    · have h1 := hoo.lt k hv
      rw [e1] at hv
      injection hv with hv
      rcases hf.2 with h2 | h2 <;> omega
    · rw [htk]
      exact ⟨kk.owns h.sur.own (fun _ _ => id), h.sur.len, fun k hv hf => h.sur.out k hv hf.1⟩
    · have h1 := ofs k hv
      rw [e1] at e
      injection e with e
      omega
/-- The law's world: its act, the log and its disk; the blocks F are the log's and the disk's. -/
structure Mid (w : World) (b13 : Nat) (rw_ : List Value) (V : World) (F : Nat → Prop) (p g : Nat) (l : Wl.St) (s : Dk.St) : Prop where
  wal : Wal V F p g l s
  f : ∀ k, F k → w.heap.size ≤ k
  k : Keeps (fun _ => False) w V
  row : Row V b13 35 rw_
  nb : ¬ F b13
theorem Mid.call {w V V' : World} {b13 p g p2 g2 : Nat} {rw_ : List Value} {F : Nat → Prop} {l l2 : Wl.St} {s s2 : Dk.St} (h : Mid w b13 rw_ V F p g l s) (x : Wal V' F p2 g2 l2 s2) (k : Keeps F V V') : Mid w b13 rw_ V' F p2 g2 l2 s2 :=
  ⟨x, h.f, h.k.trans' k (fun i hi hf => absurd (h.f i hf) (by omega)), h.row.keeps k h.nb, h.nb⟩
theorem Mid.still {w V V' : World} {b13 p g : Nat} {rw_ : List Value} {F : Nat → Prop} {l : Wl.St} {s : Dk.St} (h : Mid w b13 rw_ V F p g l s) (k : Keeps (fun _ => False) V V') : Mid w b13 rw_ V' F p g l s :=
  h.call (h.wal.still k) (k.mono (fun _ _ h => h.elim))
theorem Mid.aside {S : Nat → Prop} {w V V' : World} {b13 p g : Nat} {rw_ : List Value} {F : Nat → Prop} {l : Wl.St} {s : Dk.St} (h : Mid w b13 rw_ V F p g l s) (k : Keeps S V V') (hs : ∀ k, S k → ¬ F k ∧ k ≠ b13 ∧ w.heap.size ≤ k) : Mid w b13 rw_ V' (cutW F V.heap.size V'.heap.size) p g l s :=
  ⟨h.wal.aside k (fun k _ hf e => (hs k e).1 hf), fun k hf => h.f k hf.1, h.k.trans' k (fun i hi e => absurd (hs i e).2.2 (by omega)), h.row.keeps k (fun e => (hs _ e).2.1 rfl), fun hf => h.nb hf.1⟩
theorem sv_fail (w : World) (F : Nat → Prop) (p g : Nat) (l : Wl.St) (s : Dk.St) (v : Int) (h : Wal w F p g l s) (hv : -9223372036854775808 ≤ v ∧ v ≤ 9223372036854775807) :
    Calls Try.prog 13 #[.pointer (some ⟨g, 0, none⟩), .int .i64 v] w fun e w' => ∃ s2, e = .returned (.tuple #[]) ∧ Wal w' F p g l s2 ∧ Keeps F w w' ∧ ∀ k n m t, GI l s k n m t → GI l s2 k n m t := by
  obtain ⟨FD, Al, cl, hx⟩ := h
  refine (fail_any w FD g _ v hx.dsk hv).mono (fun e w' h => ?_)
  have hg0 : FD g := by obtain ⟨_, _, _, _, _, _, h⟩ := hx.dsk; exact h.fg
  exact ⟨_, h.1, ⟨FD, Al, cl, hx.call h.2.1 (h.2.2.mono (fun k _ e => by subst e; exact hg0))⟩, h.2.2.mono (fun k _ e => by subst e; exact hx.sub _ hg0), fun k n m t gi => gi.fail _ _⟩
theorem GI.few {l : Wl.St} {s : Dk.St} {n m t : Nat} (h : GI l s 7 n m t) (ho : Wl.Ok l) : l.rows.length ≤ 224 := by
  have h1 := ho.fit
  have h2 := Wl.frames_many l.rows
  have h3 := h.k_
  unfold Wl.hv at h1
  omega
theorem src_block12 {w : World} {A : Option Addr} {f : List UInt8} (hS : Src w A (bvs f)) (a : Addr) (ha : A = some a) (h0 : 0 < f.length) : a.block < w.heap.size := by
  obtain ⟨b, hb, hc⟩ := hS.pos (by simp [bvs]; omega)
  rw [ha] at hb
  injection hb with hb
  subst hb
  have h1 : ∃ u, (bvs f)[0]? = some u := ⟨_, List.getElem?_eq_getElem (by simp [bvs]; omega)⟩
  obtain ⟨u, hu⟩ := h1
  exact World.block_lt_of_cell? w _ (hc 0 u hu)
/-- Is there a crash? -/
structure Dn (q : Bool) (x r : Int) : Prop where
  d : q = true → x = 30 ∨ r = 7
  u : q = false → x ≠ 30
/-- What holds behind the statement that is done: what is told is x; R1 and R2 are the texts of what was sure, and of what may be. -/
structure Aft (w : World) (b13 : Nat) (rw_ : List Value) (V : World) (F : Nat → Prop) (p g : Nat) (l : Wl.St) (s : Dk.St) (As : Option Addr) (ns cs : Nat) (Aa : Option Addr) (na ca : Nat) (Am : Option Addr) (nm cm : Nat) (R1 R2 : List Wl.Bs) (x r : Int) (i : Nat) : Prop where
  mid : Mid w b13 rw_ V F p g l s
  t1 : Tx V w.heap.size F As ns cs R1
  t2 : Tx V w.heap.size F Am nm cm R2
  down : x = 30 ∨ r = 7 → s.loose.length ≤ 950 ∧ Cr s 7 16 (i + 1) (fun y => y = R1 ∨ y = R2)
  up : x ≠ 30 → GI l s 7 16 (11 * (i + 1)) (i + 1) ∧ TxAt V w.heap.size F l Aa na ca As ns cs
section
variable {w : World} {b13 : Nat} {rw_ : List Value} {V : World} {F : Nat → Prop} {p g : Nat} {l : Wl.St} {s : Dk.St} {As : Option Addr} {ns cs : Nat} {Aa : Option Addr} {na ca : Nat} {i : Nat}
theorem Aft.calm (M : Mid w b13 rw_ V F p g l s) (T : TxAt V w.heap.size F l Aa na ca As ns cs) (G : GI l s 7 16 (11 * i) i) (hi : i < 20) (x r : Int) (hx : x ≠ 30) : Aft w b13 rw_ V F p g l s As ns cs Aa na ca As ns cs (l.rows.take l.sure) (l.rows.take l.sure) x r i :=
  ⟨M, T.sur, T.sur, fun _ => ⟨by have := G.loose; omega, G.cr.more (by omega) (fun _ h => .inl h)⟩, fun _ => ⟨G.more (by omega) (by omega), T⟩⟩
theorem Aft.broken {Am : Option Addr} {nm cm : Nat} {R1 R2 : List Wl.Bs} (M : Mid w b13 rw_ V F p g l s) (T1 : Tx V w.heap.size F As ns cs R1) (T2 : Tx V w.heap.size F Am nm cm R2) (hlo : s.loose.length ≤ 950) (hc : Cr s 7 16 (i + 1) (fun y => y = R1 ∨ y = R2)) (r : Int) : Aft w b13 rw_ V F p g l s As ns cs Aa na ca Am nm cm R1 R2 30 r i :=
  ⟨M, T1, T2, fun _ => ⟨hlo, hc⟩, fun h => absurd rfl h⟩
theorem Aft.whole {Am : Option Addr} {nm cm : Nat} {R2 : List Wl.Bs} {m t : Nat} (M : Mid w b13 rw_ V F p g l s) (T : Tx V w.heap.size F Aa na ca l.rows) (hs : l.sure = l.rows.length) (T2 : Tx V w.heap.size F Am nm cm R2) (G : GI l s 7 16 m t) (hm : m ≤ 11 * (i + 1)) (ht : t ≤ i + 1) (r : Int) (hr : r ≠ 7) : Aft w b13 rw_ V F p g l s Aa na ca Aa na ca Am nm cm l.rows R2 0 r i :=
  ⟨M, T, T2, fun h => by rcases h with h | h; exact absurd h (by decide); exact absurd h hr, fun _ => ⟨G.more hm ht, TxAt.both T hs⟩⟩
theorem Aft.appended {V1 V3 : World} {l2 : Wl.St} {s2 : Dk.St} {A3 : Option Addr} {c3 : Nat} (M : Mid w b13 rw_ V F p g l2 s2) (T : TxAt V w.heap.size F l Aa na ca As ns cs) (G : GI l2 s2 7 16 (11 * i + 1) i) (b : Wl.Bs) (hr : l2.rows = l.rows ++ [b]) (hs : l2.sure = l.sure) (k1 : Keeps (fun _ => False) V V1)
    (ho : V3.ownsRow w.heap.size 9 1 (.slice A3 (na + 1) c3) (na + 1) (svals12 l.rows ++ [.string (strOf b)]))
    (hc : (A3 = Aa ∧ c3 = ca ∧ (∃ g, Aa = some ⟨g, 0, none⟩) ∧ V1.grownBy V3 (Value.slice Aa na ca).ownBlock) ∨ ((Value.slice A3 (na + 1) c3).ownBlock = some V1.heap.size ∧ V1.grownBy V3 none)) (r : Int) (hr7 : r ≠ 7) :
    Aft w b13 rw_ V3 (cutW F V.heap.size V3.heap.size) p g l2 s2 As ns cs A3 (na + 1) c3 As ns cs (l.rows.take l.sure) (l.rows.take l.sure) 0 r i := by
  obtain ⟨kk, T3⟩ := T.append b hr hs k1 ho hc
  have htk : l2.rows.take l2.sure = l.rows.take l.sure := by
    rw [hr, hs, List.take_append_of_le_length (by rw [T.all.len, T.sure]; exact T.le)]
  have M3 := M.aside kk (fun k hk => ⟨T.all.out k hk, own_apart T.all.own M.row (by decide) k hk, by obtain ⟨_, _, h⟩ := own_block T.all.own k hk; exact h⟩)
  exact ⟨M3, htk ▸ T3.sur, htk ▸ T3.sur, fun h => by rcases h with h | h; exact absurd h (by decide); exact absurd h hr7, fun _ => ⟨G.more (by omega) (by omega), T3⟩⟩
end
end Go.Proofs.Ytnhegnncmjmafaa
