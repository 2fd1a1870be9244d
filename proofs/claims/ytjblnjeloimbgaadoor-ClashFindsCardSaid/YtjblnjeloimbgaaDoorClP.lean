/-
  Rows that have been gathered: the state of the closure, and a step of it.
-/
import Derived.Test.YtjblnjeloimbgaaDoorClD
import Derived.Test.YtjblnjeloimbgaaDoorTrCa
import Derived.Test.YtjblnjeloimbgaaDoorTrG
namespace Go.Proofs.YtjblnjeloimbgaaDoor
open Go.RowKit Go.BigFrame
set_option linter.unusedVariables false

/-- A row of bytes in a block of bytes. -/
structure RowOk (w : World) (r : RowOf) : Prop where
  src : Src w r.1 (bvs r.2.2)
  cap : r.2.2.length ≤ r.2.1 ∧ r.2.1 ≤ 9223372036854775807
  t8 : T8 w r.1
theorem RowOk.keeps {S : Nat → Prop} {w w' : World} {r : RowOf} (h : RowOk w r) (hk : Keeps S w w') (hs : ∀ k cs fr, w.heap[k]? = some (.cells cs 5 fr) → ¬ S k) : RowOk w' r := by
  refine ⟨h.src.keeps hk (fun a ha _ => ?_), h.cap, fun a ha => ?_⟩
  · obtain ⟨cs, fr, h8⟩ := h.t8 a ha
    exact hs _ cs fr h8
  · obtain ⟨cs, fr, h8⟩ := h.t8 a ha
    exact ⟨cs, fr, (hk.block _ (Array.getElem?_eq_some_iff.1 h8).1 (hs _ cs fr h8)).trans h8⟩
theorem RowOk.later {w w' : World} {r : RowOf} (h : RowOk w r) (hk : Keeps (fun _ => False) w w') : RowOk w' r := h.keeps hk (fun _ _ _ _ => id)
def rowSl (r : RowOf) : Value := .slice r.1 r.2.2.length r.2.1
/-- What a step of the closure may write. -/
def GS (w : World) (base B k : Nat) : Prop := k = B ∨ (base ≤ k ∧ ∃ cs, w.heap[k]? = some (.cells cs 23 (0, 0)))
theorem GS.trans {a b w : World} {base B : Nat} (h : Keeps (GS a base B) a b) (k : Keeps (GS b base B) b w) : Keeps (GS a base B) a w := by
  refine h.trans' k (fun i hi hg => ?_)
  by_cases hs : GS a base B i
  · exact hs
  · rcases hg with e | ⟨e, cs, hc⟩
    · exact .inl e
    · exact .inr ⟨e, cs, (h.block i hi hs).symm.trans hc⟩
theorem GS.not_type {w : World} {base B k : Nat} {cs : Array Value} {t : TypeId} {fr : Nat × Nat} (h : w.heap[k]? = some (.cells cs t fr)) (ht : t ≠ 23) (hB : k ≠ B) : ¬ GS w base B k := by
  rintro (e | ⟨_, cs', hc⟩)
  · exact hB e
  · rw [h] at hc
    injection hc with hc
    injection hc with _ hc
    exact ht hc
theorem GS.not_low {w : World} {base B k : Nat} (hk : k < base) (hB : base ≤ B) : ¬ GS w base B k := by
  rintro (e | ⟨e, _⟩) <;> omega
/-- What the closure has gathered. -/
structure PSt (w : World) (base B Bp Bw : Nat) (wide : Int) (done : List (List UInt8)) : Prop where
  lo : base ≤ B
  gath : Gath w B Bp Bw wide
  var : ∃ v rs, Row w B 51 [v] ∧ w.ownsRow base 23 1 v rs.length (rs.map rowSl) ∧ (∀ r ∈ rs, RowOk w r) ∧ ents rs = done
theorem PSt.later {w w' : World} {base B Bp Bw : Nat} {wide : Int} {done : List (List UInt8)} (h : PSt w base B Bp Bw wide done) (hk : Keeps (fun _ => False) w w') : PSt w' base B Bp Bw wide done := by
  obtain ⟨v, rs, h1, h2, h3, h4⟩ := h.var
  exact ⟨h.lo, h.gath.keeps hk id id, v, rs, h1.keeps hk id, hk.owns h2 (fun _ _ => id), fun r hr => (h3 r hr).later hk, h4⟩
/-- A store into a block of another type. -/
theorem PSt.keeps {S : Nat → Prop} {w w' : World} {base B Bp Bw : Nat} {wide : Int} {done : List (List UInt8)} (h : PSt w base B Bp Bw wide done) (hk : Keeps S w w') (hs : ∀ k cs t fr, w.heap[k]? = some (.cells cs t fr) → t = 51 ∨ t = 23 ∨ t = 5 ∨ t = 3 ∨ t = 71 → ¬ S k) : PSt w' base B Bp Bw wide done := by
  obtain ⟨v, rs, h1, h2, h3, h4⟩ := h.var
  refine ⟨h.lo, h.gath.keeps hk (hs _ _ _ _ h.gath.ptr (by simp)) (hs _ _ _ _ h.gath.wid (by simp)), v, rs, h1.keeps hk (hs _ _ _ _ h1 (by simp)), hk.owns h2 (fun k e => ?_), fun r hr => (h3 r hr).keeps hk (fun k cs fr e => hs k cs _ fr e (by simp)), h4⟩
  obtain ⟨cur, hc, _⟩ := own_block h2 k e
  exact hs _ _ _ _ hc (by simp)
theorem PSt.new {w : World} {base B Bp Bw : Nat} {wide : Int} (lo : base ≤ B) (hg : Gath w B Bp Bw wide) (hB : Row w B 51 [.slice none 0 0]) : PSt w base B Bp Bw wide [] :=
  ⟨lo, hg, _, [], hB, World.ownsRow_nil _ _ _ _, fun r hr => (by cases hr), rfl⟩
/-- A row is hashed, and gathered. -/
theorem PSt.step {w : World} {base B Bp Bw : Nat} {wide : Int} {done : List (List UInt8)} (h : PSt w base B Bp Bw wide done) (hT : Tabs w) (hb0 : 2 < base) (hn : done.length ≤ 1000) (A : Option Addr) (c : Nat) (row : List UInt8) (hr : RowOk w (A, c, row)) (hx : row.length ≤ 1000) :
    Calls Tryd.prog 41 #[.slice A row.length c, .pointer (some ⟨Bp, 0, none⟩), .pointer (some ⟨Bw, 0, none⟩)] w fun e w' => e = .returned (.agg (bvs (Cl.nar (Cl.wid wide) row)).toArray) ∧ PSt w' base B Bp Bw wide (done ++ [row]) ∧ Keeps (GS w base B) w w' := by
  obtain ⟨v, rs, h1, h2, h3, h4⟩ := h.var
  have hl : rs.length = done.length := by rw [← h4, ents_length]
  refine (gath_any base B Bp Bw wide v rs.length (rs.map rowSl) A c row w hT h.gath h1 h2 hb0 h.lo (by omega) hr.src hr.t8 hr.cap.1 hr.cap.2 hx).mono ?_
  rintro e w' ⟨he, ⟨v', h5, h6⟩, h7⟩
  have hgs : Keeps (GS w base B) w w' := h7.mono (fun k hk e => by
    rcases e with e | e
    · exact .inl e
    · obtain ⟨cur, hc, hb⟩ := own_block h2 k e
      exact .inr ⟨hb, cur, hc⟩)
  have hne : ∀ k cs t fr, w.heap[k]? = some (.cells cs t fr) → t ≠ 23 → t ≠ 51 → ¬ GS w base B k := fun k cs t fr hc ht ht2 => GS.not_type hc ht (fun e => by
    subst e
    rw [h1] at hc
    injection hc with hc
    injection hc with _ hc
    exact ht2 hc.symm)
  refine ⟨he, ⟨h.lo, h.gath.keeps hgs (hne _ _ _ _ h.gath.ptr (by decide) (by decide)) (hne _ _ _ _ h.gath.wid (by decide) (by decide)), v', rs ++ [(A, c, row)], h5, ?_, fun r hr' => ?_, ?_⟩, hgs⟩
  · rw [List.length_append, List.map_append]
    exact h6
  · rcases List.mem_append.1 hr' with hr' | hr'
    · exact (h3 r hr').keeps hgs (fun k cs fr e => hne k cs _ fr e (by decide) (by decide))
    · rw [List.mem_singleton] at hr'
      subst hr'
      exact hr.keeps hgs (fun k cs fr e => hne k cs _ fr e (by decide) (by decide))
  · unfold ents at h4 ⊢
    rw [List.map_append, h4]
    rfl
/-- The rows, as they are told. -/
structure RowsOk (w : World) (A : Option Addr) (c : Nat) (rs : List RowOf) : Prop where
  at_ : RowsAt w A rs
  len : rs.length ≤ c ∧ c ≤ 9223372036854775807
theorem RowsOk.later {w w' : World} {A : Option Addr} {c : Nat} {rs : List RowOf} (h : RowsOk w A c rs) (hk : Keeps (fun _ => False) w w') : RowsOk w' A c rs := ⟨h.at_.keeps hk (fun _ _ => id), h.len⟩
theorem PSt.told {w : World} {base B Bp Bw : Nat} {wide : Int} {done : List (List UInt8)} (h : PSt w base B Bp Bw wide done) : ∃ A c rs, Row w B 51 [.slice A rs.length c] ∧
    (∀ (S : Nat → Prop) (V : World), Keeps S w V → (∀ k cs t fr, w.heap[k]? = some (.cells cs t fr) → t = 23 ∨ t = 5 → ¬ S k) → RowsOk V A c rs) ∧ ents rs = done := by
  obtain ⟨v, rs, h1, h2, h3, h4⟩ := h.var
  obtain ⟨A, c, rfl, c1, c2, _⟩ := RowIn.of_own h2
  refine ⟨A, c, rs, h1, fun S V hk hs => ?_, h4⟩
  have ho := hk.owns h2 (fun k e => by
    obtain ⟨cur, hc, _⟩ := own_block h2 k e
    exact hs _ _ _ _ hc (by simp))
  have hr : ∀ r ∈ rs, RowOk V r := fun r hr => (h3 r hr).keeps hk (fun k cs fr e => hs k cs _ fr e (by simp))
  obtain ⟨A2, c2', e2, _, _, hin⟩ := RowIn.of_own ho
  injection e2 with e2 _ e3
  subst e2
  refine ⟨⟨fun i r hi => ?_, fun r hi => (hr r hi).src, fun r hi => (hr r hi).cap⟩, c1, by unfold maxLen at c2; omega⟩
  have hm : (rs.map rowSl)[i]? = some (rowSl r) := by rw [List.getElem?_map, hi]; rfl
  obtain ⟨a, e, hc⟩ := hin.src i _ hm
  exact ⟨a, e, hc⟩
theorem results_tct {P : Program} {fn : Func} {p q u : Tmp} {ty : TypeId} (h : fn.results = #[.tmp p, .cell q ty, .tmp u]) (tmps : Array Value) (w : World) (g : Nat) (t : TypeId) (cs : Array Value) (fr : Nat × Nat) (d : TypeDesc) (x y : Value)
    (hp : tmps.getD p undef = x) (hq : tmps.getD q undef = .pointer (some ⟨g, 0, none⟩)) (hg : w.heap[g]? = some (.cells cs t fr)) (hu : P.underlying ty = some d) (hd : (match d with | .struct _ | .array _ _ => true | _ => false) = true) (hi : (P.info? ty).map (·.size) = some cs.size) (hv : tmps.getD u undef = y) :
    (results fn tmps).run P w = .ok (.tuple #[x, .agg cs, y]) w := by
  have hp' : tmps[p]?.getD undef = x := by simpa using hp
  have hq' : tmps[q]?.getD undef = .pointer (some ⟨g, 0, none⟩) := by simpa using hq
  have hv' : tmps[u]?.getD undef = y := by simpa using hv
  simp [results, h, hp', hq', hv', asAddr, run_loadVar_row w g t ty cs fr d hg hu hd hi]
theorem results_tcct {P : Program} {fn : Func} {p q r u : Tmp} {ty ty2 : TypeId} (h : fn.results = #[.tmp p, .cell q ty, .cell r ty2, .tmp u]) (tmps : Array Value) (w : World) (g : Nat) (t : TypeId) (cs : Array Value) (fr : Nat × Nat) (d : TypeDesc) (g2 : Nat) (t2 : TypeId) (cs2 : Array Value) (fr2 : Nat × Nat) (d2 : TypeDesc) (x y : Value)
    (hp : tmps.getD p undef = x) (hq : tmps.getD q undef = .pointer (some ⟨g, 0, none⟩)) (hg : w.heap[g]? = some (.cells cs t fr)) (hu : P.underlying ty = some d) (hd : (match d with | .struct _ | .array _ _ => true | _ => false) = true) (hi : (P.info? ty).map (·.size) = some cs.size)
    (hr : tmps.getD r undef = .pointer (some ⟨g2, 0, none⟩)) (hg2 : w.heap[g2]? = some (.cells cs2 t2 fr2)) (hu2 : P.underlying ty2 = some d2) (hd2 : (match d2 with | .struct _ | .array _ _ => true | _ => false) = true) (hi2 : (P.info? ty2).map (·.size) = some cs2.size) (hv : tmps.getD u undef = y) :
    (results fn tmps).run P w = .ok (.tuple #[x, .agg cs, .agg cs2, y]) w := by
  have hp' : tmps[p]?.getD undef = x := by simpa using hp
  have hq' : tmps[q]?.getD undef = .pointer (some ⟨g, 0, none⟩) := by simpa using hq
  have hr' : tmps[r]?.getD undef = .pointer (some ⟨g2, 0, none⟩) := by simpa using hr
  have hv' : tmps[u]?.getD undef = y := by simpa using hv
  simp [results, h, hp', hq', hr', hv', asAddr, run_loadVar_row w g t ty cs fr d hg hu hd hi, run_loadVar_row w g2 t2 ty2 cs2 fr2 d2 hg2 hu2 hd2 hi2]
end Go.Proofs.YtjblnjeloimbgaaDoor
