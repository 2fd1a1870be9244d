/-
  What two paths, or two proofs, show, as a value: it lasts, it is looked at again (clash.Check). WRITTEN BY wip/gen/mkclsh.py.
-/
import Derived.Test.YtjblnjeloimbgaaDoorClG
namespace Go.Proofs.YtjblnjeloimbgaaDoor
namespace Cl
def Short (c : Bytes × Bytes) : Prop := c.1.length ≤ 1000 ∧ c.2.length ≤ 1000
theorem highR_in : ∀ (p q : List Bytes), highR p q = ([], []) ∨ ((highR p q).1 ∈ p ∧ (highR p q).2 ∈ q)
  | [], _ => .inl rfl
  | _ :: _, [] => .inl rfl
  | x :: l, y :: m => by
    unfold highR
    split
    · rcases highR_in l m with h | h
      · exact .inl h
      · exact .inr ⟨List.mem_cons_of_mem _ h.1, List.mem_cons_of_mem _ h.2⟩
    · exact .inr ⟨List.mem_cons_self, List.mem_cons_self⟩
theorem high_short (p q : List Bytes) (hp : ∀ r ∈ p, r.length ≤ 1000) (hq : ∀ r ∈ q, r.length ≤ 1000) : Short (high p q) := by
  unfold high
  rcases highR_in p.reverse q.reverse with h | h
  · rw [h]; exact ⟨Nat.zero_le _, Nat.zero_le _⟩
  · exact ⟨hp _ (by simpa using h.1), hq _ (by simpa using h.2)⟩
theorem rowsOf_short (k : Nat) : ∀ (l : List (Bytes × Bool)) (h : Bytes), h.length = 32 → (∀ s ∈ l, s.1.length = 32) → ∀ r ∈ rowsOf k h l, r.length ≤ 1000
  | [], h, hh, hl, r, hr => (by cases hr)
  | s :: l, h, hh, hl, r, hr => by
    rcases List.mem_cons.1 (show r ∈ nodeRow s.2 h s.1 :: rowsOf k (step k h s) l from hr) with e | e
    · rw [e, nodeRow_length _ _ _ hh (hl s (by simp))]; omega
    · exact rowsOf_short k l _ (nar_length _ _) (fun x hx => hl x (by simp [hx])) r e
theorem prow_short {k n i : Nat} {e : Bytes} {p : List Bytes} (hp : ∀ x ∈ p, x.length = 32) (he : e.length ≤ 100) : ∀ r ∈ (prow k n i e p).1, r.length ≤ 1000 := by
  intro r hr
  unfold prow at hr
  split at hr
  · cases hr
  · split at hr
    · rcases List.mem_cons.1 hr with h | h
      · rw [h]; show (leafRow e).length ≤ 1000; unfold leafRow; rw [List.length_cons]; omega
      · exact rowsOf_short k _ _ (nar_length _ _) (zip_fst _ _ hp) r h
    · cases hr
theorem paths_short {k n i : Nat} {a b : Bytes} {p q : List Bytes} {c : Bytes × Bytes} (hp : ∀ x ∈ p, x.length = 32) (hq : ∀ x ∈ q, x.length = 32) (ha : a.length ≤ 100) (hb : b.length ≤ 100) (h : paths k n i a b p q = some c) : Short c := by
  unfold paths at h
  split at h
  · cases h
  · split at h
    · cases h
    · split at h
      · cases h
      · cases h
        exact high_short _ _ (prow_short hp ha) (prow_short hq hb)
theorem crow_short {k m n : Nat} {o : Bytes} {p : List Bytes} (ho : o.length = 32) (hp : ∀ x ∈ p, x.length = 32) (hn : n ≤ 18446744073709551615) : ∀ r ∈ (crow k m n o p).1, r.length ≤ 1000 := by
  intro r hr
  unfold crow at hr
  split at hr
  · cases hr
  · rename_i h1
    split at hr
    · rename_i h2
      exact rowsOf_short k _ _ (bc_length ho hp (by omega) (by omega) hn h2) (zip_fst _ _ (fun x hx => hp x (by unfold Tr.rest at hx; split at hx; exact hx; exact List.mem_of_mem_drop hx))) r hr
    · cases hr
theorem chains_short {k m n : Nat} {a b : Bytes} {p q : List Bytes} {c : Bytes × Bytes} (hn : n ≤ 18446744073709551615) (ha : a.length = 32) (hb : b.length = 32) (hp : ∀ x ∈ p, x.length = 32) (hq : ∀ x ∈ q, x.length = 32) (h : chains k m n a b p q = some c) : Short c := by
  unfold chains at h
  split at h
  · cases h
  · split at h
    · cases h
    · split at h
      · cases h
      · cases h
        exact high_short _ _ (crow_short ha hp hn) (crow_short hb hq hn)
end Cl
open Go.RowKit Go.BigFrame
set_option linter.unusedVariables false

structure ShV where
  A1 : Option Addr
  l1 : Nat
  c1 : Nat
  A2 : Option Addr
  l2 : Nat
  c2 : Nat
def ShV.row (x : ShV) : Array Value := #[.slice x.A1 x.l1 x.c1, .slice x.A2 x.l2 x.c2]
def ShV.val (b : Bool) (x : ShV) : Value := .tuple #[.agg x.row, .bool b]
theorem ShV.inj (b : Bool) (x y : ShV) (h : x.val b = y.val b) : x = y := by
  cases x; cases y
  simp [ShV.val, ShV.row] at h
  simp [h]
theorem ShV.one (x : ShV) : x.row.all (·.oneCell') = true := by simp [ShV.row, Value.oneCell']
theorem ShV.size (x : ShV) : (Tryd.prog.info? 29).map (·.size) = some x.row.size := by show _ = some 2; kernel_rfl
/-- What is shown lies there. -/
def Shown (c : Option (List UInt8 × List UInt8)) (w : World) (x : ShV) : Prop := ∃ r s : RowOf, x.row = #[rowSl r, rowSl s] ∧ (r.2.2, s.2.2) = c.getD ([], []) ∧ RowG w r ∧ RowG w s
theorem Shown.lasts (c : Option (List UInt8 × List UInt8)) (x : ShV) : Lasts (fun w => Shown c w x) := fun w w' ⟨r, s, h1, h2, h3, h4⟩ hk => ⟨r, s, h1, h2, h3.later hk, h4.later hk⟩
theorem Shown.later {c : Option (List UInt8 × List UInt8)} {w w' : World} {x : ShV} (h : Shown c w x) (hk : Keeps (fun _ => False) w w') : Shown c w' x := Shown.lasts c x w w' h hk
/-- No byte lies in a pair of slices. -/
def NoU8 (cs : Array Value) : Prop := ∀ (i : Nat) (v : Value), cs[i]? = some v → ∀ n, v ≠ .int .u8 n
theorem ShV.no (x : ShV) : NoU8 x.row := fun i v hv n e => by
  unfold ShV.row at hv
  match i, hv with
  | 0, hv => cases hv; cases e
  | 1, hv => cases hv; cases e
theorem Shown.setRow {c : Option (List UInt8 × List UInt8)} {w : World} {x : ShV} {g : Nat} {cs : Array Value} {t : TypeId} {fr : Nat × Nat} (h : Shown c w x) (hg : w.heap[g]? = some (.cells cs t fr)) (hc : NoU8 cs) (R : Array Value) : Shown c (w.setRow g R) x := by
  obtain ⟨r, s, h1, h2, h3, h4⟩ := h
  exact ⟨r, s, h1, h2, ⟨src_setRow h3.src hg hc R, h3.cap⟩, ⟨src_setRow h4.src hg hc R, h4.cap⟩⟩
theorem Shown.of {c : Option (List UInt8 × List UInt8)} {w : World} {r s : RowOf} (h : (r.2.2, s.2.2) = c.getD ([], [])) (hr : RowG w r) (hs : RowG w s) : Shown c w ⟨r.1, r.2.2.length, r.2.1, s.1, s.2.2.length, s.2.1⟩ := ⟨r, s, rfl, h, hr, hs⟩
theorem check_shown (wide : Int) (p : List UInt8 × List UInt8) (x : ShV) (w : World) (hT : Tabs w) (h : Shown (some p) w x) (hg : Cl.Good (Cl.wid wide) p) (hs : Cl.Short p) :
    Calls Tryd.prog 11 #[.int .i64 wide, .agg x.row] w fun e w' => e = .returned (.bool true) ∧ Keeps (fun _ => False) w w' := by
  obtain ⟨r, s, h1, h2, h3, h4⟩ := h
  have e : (r.2.2, s.2.2) = p := h2
  subst e
  rw [h1]
  have hc := check_ne wide r s w hT h3 h4 hg.1 hs.1 hs.2
  rw [show (Cl.nar (Cl.wid wide) r.2.2 == Cl.nar (Cl.wid wide) s.2.2) = true from beq_iff_eq.2 hg.2] at hc
  exact hc
theorem paths_shown (wide : Int) (n i : Nat) (Aa Ab : Option Addr) (ca cb : Nat) (xs ys : List UInt8) (A B : Option Addr) (c d : Nat) (ps qs : List (List UInt8)) (w : World) (hT : Tabs w) (hsa : Src w Aa (bvs xs)) (hca : xs.length ≤ ca) (hca1 : ca ≤ 9223372036854775807) (hxs : xs.length ≤ 100) (hsb : Src w Ab (bvs ys)) (hcb : ys.length ≤ cb) (hcb1 : cb ≤ 9223372036854775807) (hys : ys.length ≤ 100)
    (hP : PathAt w A ps) (hQ : PathAt w B qs) (hn : n ≤ 18446744073709551615) (hc : ps.length ≤ c) (hmax : c ≤ 9223372036854775807) (hd : qs.length ≤ d) (hmax2 : d ≤ 9223372036854775807) :
    Calls Tryd.prog 8 #[.int .i64 wide, .int .u64 (n : Int), .int .u64 (i : Int), .slice Aa xs.length ca, .slice Ab ys.length cb, .slice A ps.length c, .slice B qs.length d] w fun e w' => ∃ x : ShV, e = .returned (x.val (Cl.paths (Cl.wid wide) n i xs ys ps qs).isSome) ∧ Shown (Cl.paths (Cl.wid wide) n i xs ys ps qs) w' x ∧ Keeps (fun _ => False) w w' := by
  refine (cpaths_any wide n i Aa Ab ca cb xs ys A B c d ps qs w hT hsa hca hca1 hxs hsb hcb hcb1 hys hP hQ hn hc hmax hd hmax2).mono ?_
  rintro e w' ⟨r, s, he, h1, h2, h3, h4⟩
  exact ⟨⟨r.1, r.2.2.length, r.2.1, s.1, s.2.2.length, s.2.1⟩, he, Shown.of h1 h2 h3, h4⟩
theorem chains_shown (wide : Int) (m n : Nat) (o1 o2 : List UInt8) (A B : Option Addr) (c d : Nat) (ps qs : List (List UInt8)) (w : World) (hT : Tabs w) (ho1 : o1.length = 32) (ho2 : o2.length = 32) (hP : PathAt w A ps) (hQ : PathAt w B qs) (hm : m ≤ 18446744073709551615) (hn : n ≤ 18446744073709551615) (hc : ps.length ≤ c) (hmax : c ≤ 9223372036854775807) (hd : qs.length ≤ d) (hmax2 : d ≤ 9223372036854775807) :
    Calls Tryd.prog 9 #[.int .i64 wide, .agg (keyCells m o1).toArray, .agg (keyCells m o2).toArray, .int .u64 (n : Int), .slice A ps.length c, .slice B qs.length d] w fun e w' => ∃ x : ShV, e = .returned (x.val (Cl.chains (Cl.wid wide) m n o1 o2 ps qs).isSome) ∧ Shown (Cl.chains (Cl.wid wide) m n o1 o2 ps qs) w' x ∧ Keeps (fun _ => False) w w' := by
  refine (chains_any wide m n o1 o2 A B c d ps qs w hT ho1 ho2 hP hQ hm hn hc hmax hd hmax2).mono ?_
  rintro e w' ⟨r, s, he, h1, h2, h3, h4⟩
  exact ⟨⟨r.1, r.2.2.length, r.2.1, s.1, s.2.2.length, s.2.1⟩, he, Shown.of h1 h2 h3, h4⟩
/-- A pair of no slices. -/
theorem zero_clash : ∃ Z : Array Value, (∀ w : World, (zeroValue 29).run Tryd.prog w = .ok (.agg Z) w) ∧ Z.size = 2 ∧ NoU8 Z ∧ (∀ w : World, (Instr.alloc 29 true (.tuple #[])).run Tryd.prog w = .ok (.pointer (some ⟨w.heap.size, 0, none⟩)) (w.alloc (.cells Z 29))) :=
  ⟨#[.slice none 0 0, .slice none 0 0], fun _ => by kernel_rfl, rfl, (fun i v hv n e => by
    match i, hv with
    | 0, hv => cases hv; cases e
    | 1, hv => cases hv; cases e), fun w => by go_simp⟩
end Go.Proofs.YtjblnjeloimbgaaDoor
