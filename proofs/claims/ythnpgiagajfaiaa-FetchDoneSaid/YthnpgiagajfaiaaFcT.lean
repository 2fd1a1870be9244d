/-
  The program's table of what is asked for: New, Has, Start, Done, Open.
-/
import Derived.Test.YthnpgiagajfaiaaFcO
import Derived.Test.YthnpgiagajfaiaaWalkE
namespace Go.Proofs.Ythnpgiagajfaiaa
open Go.RowKit Go.BigFrame
set_option linter.unusedVariables false
set_option linter.unusedSimpArgs false

/-- The program's table: its numbers, its map. -/
structure TabF (w : World) (F : Nat → Prop) (g b : Nat) (t : Ft.Tb) : Prop where
  row : Row w g 65 [.map (some b), .int .i64 (t.base : Int), .int .i64 (t.most : Int), .int .i64 (t.budget : Int)]
  map : WMap w b t.l
  own : ∀ k, F k ↔ (k = g ∨ k = b)
  ok : Ft.Tb.Ok t
def FAt (w : World) (F : Nat → Prop) (g : Nat) (t : Ft.Tb) : Prop := ∃ b, TabF w F g b t
section
variable {w w' : World} {F : Nat → Prop} {g b : Nat} {t : Ft.Tb}
theorem TabF.ne (h : TabF w F g b t) : b ≠ g := h.map.apart h.row
theorem TabF.glt (h : TabF w F g b t) : g < w.heap.size := (Array.getElem?_eq_some_iff.1 h.row).1
theorem TabF.keeps {S : Nat → Prop} (h : TabF w F g b t) (hk : Keeps S w w') (hs : ∀ k, S k → ¬ F k) : TabF w' F g b t :=
  ⟨h.row.keeps hk (fun e => hs g e ((h.own g).2 (.inl rfl))), h.map.keeps hk (fun e => hs b e ((h.own b).2 (.inr rfl))), h.own, h.ok⟩
theorem TabF.later (h : TabF w F g b t) (hk : Keeps (fun _ => False) w w') : TabF w' F g b t := h.keeps hk (fun _ h => h.elim)
theorem FAt.lt (h : FAt w F g t) : ∀ k, F k → k < w.heap.size := fun k hk => by
  obtain ⟨b, h⟩ := h
  rcases (h.own k).1 hk with rfl | rfl
  · exact h.glt
  · exact h.map.lt
end
theorem zero_state (V : World) : (zeroValue 69).run Try.prog V = .ok (.agg #[.int .i64 0, .int .i64 0]) V := by kernel_rfl
theorem alloc_state (V : World) : (Instr.alloc 69 true (.tuple #[])).run Try.prog V = .ok (.pointer (some ⟨V.heap.size, 0, none⟩)) (V.alloc (.cells #[.int .i64 0, .int .i64 0] 69)) := by
  have h := zero_state V
  go_simp
theorem info_state : (Try.prog.info? 69).map (·.size) = some 2 := by kernel_rfl
/-- A look-up's answer. -/
def scs (q : Ft.Q) : Array Value := #[.int .i64 (q.tries : Int), .int .i64 q.left]
theorem WMap.look_in {w : World} {b : Nat} {l : List Ft.Q} (h : WMap w b l) (q : Ft.Q) (hq : q ∈ l) (hk : Ft.Wn.Ok q.key) (ok : Bool) :
    (Instr.lookup 63 (.map (some b)) (.agg (wcs q.key).toArray) ok).run Try.prog w = .ok (if ok then .tuple #[.agg (scs q), .bool true] else .agg (scs q)) w := by
  obtain ⟨v, h1, h2, _⟩ := h.look (zero_state w) q.key hk ok
  have hh : Ft.has l q.key = true := Ft.has_iff.2 ⟨q, hq, rfl⟩
  rw [hh, h2 q hq rfl] at h1
  exact h1
theorem WMap.look_out {w : World} {b : Nat} {l : List Ft.Q} (h : WMap w b l) (k : Ft.Wn) (hk : Ft.Wn.Ok k) (hn : Ft.has l k = false) (ok : Bool) :
    (Instr.lookup 63 (.map (some b)) (.agg (wcs k).toArray) ok).run Try.prog w = .ok (if ok then .tuple #[.agg #[.int .i64 0, .int .i64 0], .bool false] else .agg #[.int .i64 0, .int .i64 0]) w := by
  obtain ⟨v, h1, _, h3⟩ := h.look (zero_state w) k hk ok
  rw [hn, h3 hn] at h1
  exact h1
theorem exec_wlook {P : Program} {o : Oper} {a : Act} (m x : Operand) (t : TypeId) (ok : Bool) (hop : o.op = Op.lookup t m x ok) (w : World) (mv xv u : Value) (hm : a.eval m = mv) (hx : a.eval x = xv) (hrun : (Instr.lookup t mv xv ok).run P w = .ok u w) : (execOp a.eval o).run P w = .ok (.value u) w := by
  simp [execOp, hop, hm, hx, hrun, Result.andThen]
theorem wpList_wstore {ops : Array Oper} {rest : List Oper} {o : Oper} {a : Act} {w : World} {Q : Exit → Act → World → Prop} (hg : o.guard = none) (m x v : Operand) (hop : o.op = Op.mapUpdate 63 m x v) (b : Nat) (l : List Ft.Q) (q : Ft.Q) (hq : Ft.Q.Ok q)
    (hm : a.eval m = .map (some b)) (KX SV : Array Value) (hx : a.eval x = .agg KX) (hv : a.eval v = .agg SV) (hkx : (wcs q.key).toArray = KX) (hsv : scs q = SV) (h : WMap w b l)
    (hK : ∀ w', WMap w' b (q :: Ft.done l q.key) → Keeps (fun k => k = b) w w' → wpList Try.prog ops Q rest (a.put o.dst undef) w') : wpList Try.prog ops Q (o :: rest) a w := by
  refine wpList_plain hg fun K' hK' => ?_
  obtain ⟨w', hrun, r1, r2⟩ := h.store q hq
  rw [show wkey q.key = .agg KX by rw [← hkx]; rfl, show sval q = .agg SV by rw [← hsv]; rfl] at hrun
  unfold Oper.wp
  simp [execOp, hop, hm, hx, hv, hrun, Result.andThen]
  exact hK' _ _ (hK w' r1 r2)
theorem wpList_wdrop {ops : Array Oper} {rest : List Oper} {o : Oper} {a : Act} {w : World} {Q : Exit → Act → World → Prop} (hg : o.guard = none) (m x : Operand) (hop : o.op = Op.call { callee := Callee.builtin Builtin.delete, args := #[m, x], argTypes := #[63, 41] }) (b : Nat) (l : List Ft.Q) (k : Ft.Wn) (hk : Ft.Wn.Ok k)
    (hm : a.eval m = .map (some b)) (KX : Array Value) (hx : a.eval x = .agg KX) (hkx : (wcs k).toArray = KX) (h : WMap w b l)
    (hK : ∀ w', WMap w' b (Ft.done l k) → Keeps (fun k => k = b) w w' → wpList Try.prog ops Q rest (a.put o.dst (.tuple #[])) w') : wpList Try.prog ops Q (o :: rest) a w := by
  refine wpList_plain hg fun K' hK' => ?_
  obtain ⟨w', hrun, r1, r2⟩ := h.drop o.type k hk
  rw [show wkey k = .agg KX by rw [← hkx]; rfl] at hrun
  unfold Oper.wp
  simp [execOp, hop, resolve, invoke, builtin, hm, hx, hrun, Result.andThen]
  exact hK' _ _ (hK w' r1 r2)

theorem within_any (n lo hi : Int) (w : World) : Calls Try.prog 22 #[.int .i64 n, .int .i64 lo, .int .i64 hi] w fun e w' => e = .returned (.bool (decide (lo ≤ n) && decide (n ≤ hi))) ∧ w' = w := by
  by_cases h1 : lo ≤ n
  · obtain ⟨r, hr⟩ : ∃ r, decide (n ≤ hi) = r := ⟨_, rfl⟩
    rw [decide_eq_true h1, hr, Bool.true_and]
    go_enter Try.func22, Try.ntmps22
    go_wp2
    go_ret
    exact ⟨rfl, rfl⟩
  · rw [decide_eq_false h1, Bool.false_and]
    go_enter Try.func22, Try.ntmps22
    go_wp2
    go_ret
    exact ⟨rfl, rfl⟩
theorem fnew_on (w : World) (base most budget : Nat) (h : (1 ≤ base ∧ base ≤ 100) ∧ (base ≤ most ∧ most ≤ 1000) ∧ (1 ≤ budget ∧ budget ≤ 20)) :
    Calls Try.prog 9 #[.int .i64 (base : Int), .int .i64 (most : Int), .int .i64 (budget : Int)] w fun e w' => ∃ g F, e = .returned (.tuple #[.pointer (some ⟨g, 0, none⟩), .int .i64 0]) ∧ FAt w' F g ⟨base, most, budget, []⟩ ∧ (∀ b, F b → w.heap.size ≤ b) ∧ Keeps (fun _ => False) w w' := by
  have hmm := @run_makeMap Try.prog
  have h1 : Calls Try.prog 22 #[.int .i64 (base : Int), .int .i64 1, .int .i64 100] w fun e w' => e = .returned (.bool true) ∧ w' = w := by
    have := within_any (base : Int) 1 100 w
    rwa [decide_eq_true (by omega), decide_eq_true (by omega)] at this
  have h2 : Calls Try.prog 22 #[.int .i64 (most : Int), .int .i64 (base : Int), .int .i64 1000] w fun e w' => e = .returned (.bool true) ∧ w' = w := by
    have := within_any (most : Int) base 1000 w
    rwa [decide_eq_true (by omega), decide_eq_true (by omega)] at this
  have h3 : Calls Try.prog 22 #[.int .i64 (budget : Int), .int .i64 1, .int .i64 20] w fun e w' => e = .returned (.bool true) ∧ w' = w := by
    have := within_any (budget : Int) 1 20 w
    rwa [decide_eq_true (by omega), decide_eq_true (by omega)] at this
  have H1 := Lib.hid h1
  have H2 := Lib.hid h2
  have H3 := Lib.hid h3
  obtain ⟨b, hb⟩ : ∃ x, w.heap.size = x := ⟨_, rfl⟩
  obtain ⟨W1, hW1⟩ : ∃ W, w.alloc (.map #[] 0) = W := ⟨_, rfl⟩
  obtain ⟨g, hg⟩ : ∃ x, W1.heap.size = x := ⟨_, rfl⟩
  obtain ⟨W2, hW2⟩ : ∃ W, W1.alloc (.cells #[.map (some b), .int .i64 (base : Int), .int .i64 (most : Int), .int .i64 (budget : Int)] 65) = W := ⟨_, rfl⟩
  have k1 : Keeps (fun _ => False) w W1 := by rw [← hW1]; exact (Keeps.refl _ _).alloc _
  have k2 : Keeps (fun _ => False) W1 W2 := by rw [← hW2]; exact (Keeps.refl _ _).alloc _
  have m1 : WMap W2 b [] := by
    have h : WMap W1 b [] := by rw [← hW1, ← hb]; exact WMap.made w
    exact h.keeps k2 id
  have r1 : Row W2 g 65 [.map (some b), .int .i64 (base : Int), .int .i64 (most : Int), .int .i64 (budget : Int)] := by rw [← hW2, ← hg]; exact heap_alloc_new W1 _
  have FIN : Hid (FAt W2 (fun k => k = g ∨ k = b) g ⟨base, most, budget, []⟩ ∧ (∀ k, (k = g ∨ k = b) → w.heap.size ≤ k) ∧ Keeps (fun _ => False) w W2) := Lib.hid ⟨⟨b, r1, m1, fun k => Iff.rfl, ⟨h, List.Pairwise.nil, fun q hq => (by cases hq)⟩⟩, fun k hk => by have := k1.size; rcases hk with rfl | rfl <;> omega, k1.trans k2⟩
  clear h h1 h2 h3 k1 k2 m1 r1
  go_enter Try.func9, Try.ntmps9
  go_wp2_with fail
  refine H1.out.mono ?_
  rintro e wx ⟨rfl, hx⟩
  obtain rfl : w = wx := hx.symm
  go_wp2_with fail
  refine H2.out.mono ?_
  rintro e wx ⟨rfl, hx⟩
  obtain rfl : w = wx := hx.symm
  go_wp2_with fail
  refine H3.out.mono ?_
  rintro e wx ⟨rfl, hx⟩
  obtain rfl : w = wx := hx.symm
  go_wp2
  go_ret2
  exact ⟨g, _, rfl, FIN.out⟩
theorem fnew_off (w : World) (base most budget : Int) (h : ¬ ((1 ≤ base ∧ base ≤ 100) ∧ (base ≤ most ∧ most ≤ 1000) ∧ (1 ≤ budget ∧ budget ≤ 20))) :
    Calls Try.prog 9 #[.int .i64 base, .int .i64 most, .int .i64 budget] w fun e w' => e = .returned (.tuple #[.pointer none, .int .i64 1]) ∧ Keeps (fun _ => False) w w' := by
  have H1 := Lib.hid (within_any base 1 100 w)
  have H2 := Lib.hid (within_any most base 1000 w)
  have H3 := Lib.hid (within_any budget 1 20 w)
  have hb : (decide (1 ≤ base) && decide (base ≤ 100)) = false ∨ ((decide (1 ≤ base) && decide (base ≤ 100)) = true ∧ (decide (base ≤ most) && decide (most ≤ 1000)) = false) ∨ ((decide (1 ≤ base) && decide (base ≤ 100)) = true ∧ (decide (base ≤ most) && decide (most ≤ 1000)) = true ∧ (decide (1 ≤ budget) && decide (budget ≤ 20)) = false) := by
    by_cases h1 : 1 ≤ base ∧ base ≤ 100
    · by_cases h2 : base ≤ most ∧ most ≤ 1000
      · have h3 : ¬ (1 ≤ budget ∧ budget ≤ 20) := fun h3 => h ⟨h1, h2, h3⟩
        exact .inr (.inr ⟨by simp [h1], by simp [h2], by simp; omega⟩)
      · exact .inr (.inl ⟨by simp [h1], by simp; omega⟩)
    · exact .inl (by simp; omega)
  clear h
  rcases hb with h1 | ⟨h1, h2⟩ | ⟨h1, h2, h3⟩
  · rw [h1] at H1
    clear h1
    go_enter Try.func9, Try.ntmps9
    go_wp2_with fail
    refine H1.out.mono ?_
    rintro e wx ⟨rfl, hx⟩
    obtain rfl : w = wx := hx.symm
    go_wp2
    go_ret2
    exact ⟨rfl, Keeps.refl _ _⟩
  · rw [h1] at H1
    rw [h2] at H2
    clear h1 h2
    go_enter Try.func9, Try.ntmps9
    go_wp2_with fail
    refine H1.out.mono ?_
    rintro e wx ⟨rfl, hx⟩
    obtain rfl : w = wx := hx.symm
    go_wp2_with fail
    refine H2.out.mono ?_
    rintro e wx ⟨rfl, hx⟩
    obtain rfl : w = wx := hx.symm
    go_wp2
    go_ret2
    exact ⟨rfl, Keeps.refl _ _⟩
  · rw [h1] at H1
    rw [h2] at H2
    rw [h3] at H3
    clear h1 h2 h3
    go_enter Try.func9, Try.ntmps9
    go_wp2_with fail
    refine H1.out.mono ?_
    rintro e wx ⟨rfl, hx⟩
    obtain rfl : w = wx := hx.symm
    go_wp2_with fail
    refine H2.out.mono ?_
    rintro e wx ⟨rfl, hx⟩
    obtain rfl : w = wx := hx.symm
    go_wp2_with fail
    refine H3.out.mono ?_
    rintro e wx ⟨rfl, hx⟩
    obtain rfl : w = wx := hx.symm
    go_wp2
    go_ret2
    exact ⟨rfl, Keeps.refl _ _⟩
theorem fopen_any (w : World) (F : Nat → Prop) (g : Nat) (t : Ft.Tb) (h : FAt w F g t) (hlen : t.l.length ≤ 1000) :
    Calls Try.prog 19 #[.pointer (some ⟨g, 0, none⟩)] w fun e w' => ∃ A c, e = .returned (.slice A t.l.length c) ∧ w'.ownsRow w.heap.size 41 66 (.slice A t.l.length c) t.l.length (wfl (Ft.keys t.l)) ∧ Keeps (fun _ => False) w w' := by
  obtain ⟨b, h⟩ := h
  have c0 : w.cell? ⟨g, 0, none⟩ = some (.map (some b)) := h.row.cell 0
  have HK := Lib.hid (keys_any (some b) w)
  obtain ⟨x, hx⟩ : ∃ x, w.heap.size = x := ⟨_, rfl⟩
  obtain ⟨W1, hW1⟩ : ∃ V, w.alloc (.cells #[.map (some b)] 63) = V := ⟨_, rfl⟩
  have k1 : Keeps (fun _ => False) w W1 := by rw [← hW1]; exact (Keeps.refl _ _).alloc _
  have c1 : W1.cell? ⟨x, 0, none⟩ = some (.map (some b)) := by
    have h2 : Row W1 x 63 [.map (some b)] := by rw [← hW1, ← hx]; exact heap_alloc_new w _
    exact h2.cell 0
  have hs := sorted_any W1 x b t.l (h.map.keeps k1 id) h.ok.sorted (by rw [← hW1, ← hx]; simp) c1 hlen
  have HS := Lib.hid hs
  have HL : Hid (x ≤ W1.heap.size) := Lib.hid (by have := k1.size; omega)
  have K1 := Lib.hid k1
  obtain ⟨n, hn⟩ : ∃ n, t.l.length = n := ⟨_, rfl⟩
  rw [hn] at HS ⊢
  rw [hW1, hx] at HK
  rw [hx]
  clear h hs k1 c1 hlen hn
  go_enter Try.func19, Try.ntmps19
  go_wp2_with fail
  refine HK.out.mono ?_
  rintro e w1 ⟨rfl, h1⟩
  obtain rfl : w1 = W1 := h1
  go_wp2_with fail
  refine HS.out.mono ?_
  rintro e w2 ⟨A, c, rfl, ho, hk⟩
  have FIN := Lib.hid (And.intro (own_base ho HL.out) (K1.out.trans hk))
  clear ho hk
  go_wp2
  go_ret
  exact ⟨A, c, rfl, FIN.out⟩
theorem fopen_none (w : World) : Calls Try.prog 19 #[.pointer none] w fun e w' => e = .returned (.slice none 0 0) ∧ w' = w := by
  go_enter Try.func19, Try.ntmps19
  go_wp2
  go_ret
  exact ⟨rfl, rfl⟩
theorem fhas_none (w : World) (k : Ft.Wn) (hk : Ft.Wn.Ok k) : Calls Try.prog 20 #[.pointer none, .agg (wcs k).toArray] w fun e w' => e = .returned (.bool false) ∧ Keeps (fun _ => False) w w' := by
  obtain ⟨KX, hKX⟩ : ∃ K, (wcs k).toArray = K := ⟨_, rfl⟩
  rw [hKX]
  have HF : Hid (Keeps (fun _ => False) w (w.alloc (.cells KX 41))) := Lib.hid ((Keeps.refl _ _).alloc _)
  clear hKX hk
  go_enter Try.func20, Try.ntmps20
  go_wp2
  go_ret
  exact ⟨rfl, HF.out⟩
set_option maxRecDepth 100000 in
set_option maxHeartbeats 1000000 in
theorem fhas_any (w : World) (F : Nat → Prop) (g : Nat) (t : Ft.Tb) (k : Ft.Wn) (h : FAt w F g t) (hk : Ft.Wn.Ok k) :
    Calls Try.prog 20 #[.pointer (some ⟨g, 0, none⟩), .agg (wcs k).toArray] w fun e w' => e = .returned (.bool (Ft.has t.l k)) ∧ Keeps (fun _ => False) w w' := by
  obtain ⟨b, h⟩ := h
  obtain ⟨bk, hbk⟩ : ∃ x, w.heap.size = x := ⟨_, rfl⟩
  obtain ⟨W1, hW1⟩ : ∃ V, w.alloc (.cells (wcs k).toArray 41) = V := ⟨_, rfl⟩
  have k1 : Keeps (fun _ => False) w W1 := by rw [← hW1]; exact (Keeps.refl _ _).alloc _
  have r1 : Row W1 bk 41 (wcs k) := by rw [← hW1, ← hbk]; exact heap_alloc_new w _
  have h1 := h.later k1
  have HM0 : Hid (∀ V, Later W1 V → V.cell? ⟨g, 0, none⟩ = some (.map (some b))) := Lib.hid (fun V hV => (h1.row.keeps hV.out id).cell 0)
  have hlk : ∃ SV r, Ft.has t.l k = r ∧ SV.size = 2 ∧ SV.all (·.oneCell') = true ∧ ∀ V, Later W1 V → (Instr.lookup 63 (.map (some b)) (.agg (wcs k).toArray) true).run Try.prog V = .ok (.tuple #[.agg SV, .bool r]) V := by
    rcases Bool.eq_false_or_eq_true (Ft.has t.l k) with hh | hh
    · obtain ⟨q, hq, rfl⟩ := Ft.has_iff.1 hh
      exact ⟨scs q, true, hh, rfl, by simp [scs, Value.oneCell'], fun V hV => (h1.map.keeps hV.out id).look_in q hq hk true⟩
    · exact ⟨#[.int .i64 0, .int .i64 0], false, hh, rfl, by simp [Value.oneCell'], fun V hV => (h1.map.keeps hV.out id).look_out k hk hh true⟩
  obtain ⟨SV, r, hr, hs2, hs1, hlk⟩ := hlk
  obtain ⟨KL, hKL⟩ : ∃ K, wcs k = K := ⟨_, rfl⟩
  have HSX : Hid ((Try.prog.info? 41).map (·.size) = some KL.length) := Lib.hid (by rw [← hKL, wcs_length hk]; exact info_want)
  have HKX : Hid (∀ V, Later W1 V → V.rangeAt bk 0 KL) := Lib.hid (fun V hV => by rw [← hKL]; exact want_range (Row.keeps r1 hV.out id))
  rw [hKL] at hlk hW1 ⊢
  have HLKR := Lib.hid hlk
  have HSZ := Lib.hid hs2
  have HSO := Lib.hid hs1
  have HSS : Hid ((Try.prog.info? 69).map (·.size) = some SV.size) := Lib.hid (by rw [hs2]; exact info_state)
  have K1 := Lib.hid k1
  rw [hr]
  have HLK : Hid (∀ V, Later W1 V → True) := Lib.hid (fun _ _ => trivial)
  clear hk h k1 r1 h1 hs1 hs2 hKL hlk hr
  go_enter Try.func20, Try.ntmps20
  go_wp2_with fail
  refine wp_region_stores 12 [9, 10] [0, 1, 2, 3, 4, 5, 6, 7, 8, 9, 10, 11] (Later W1) (fun _ => True) (by kernel_rfl) (by kernel_rfl) (Lasts.later W1) (Lasts.true) (⟨(Keeps.refl _ _).drew⟩) (trivial) ?_
  refine T_value (get_op rfl) (by rfl) (by rfl) (.pointer (some ⟨g, 0, none⟩)) (fun _ _ => by go_simp) ?_
  simp only [Act.put, List.setIfInBounds_toArray, List.set_cons_zero, List.set_cons_succ]
  refine T_value (get_op rfl) (by rfl) (by rfl) (.pointer (some ⟨g, 0, none⟩)) (fun _ _ => by go_simp) ?_
  simp only [Act.put, List.setIfInBounds_toArray, List.set_cons_zero, List.set_cons_succ]
  refine T_value (get_op rfl) (by rfl) (by rfl) (.pointer (some ⟨g, 0, none⟩)) (fun _ _ => by go_simp) ?_
  simp only [Act.put, List.setIfInBounds_toArray, List.set_cons_zero, List.set_cons_succ]
  refine T_cell (get_op rfl) (by rfl) (by rfl) 63 (.tmp 12) (by rfl) ⟨g, 0, none⟩ (by rfl) (.map (some b)) _ (fun V hV => HM0.out V hV) Try.underlying63 rfl ?_
  simp only [Act.put, List.setIfInBounds_toArray, List.set_cons_zero, List.set_cons_succ]
  refine T_load (get_op rfl) (by rfl) (by rfl) 41 (.tmp 3) (by rfl) bk 0 (by rfl) KL _ (fun V hV => HKX.out V hV) Try.underlying41 rfl HSX.out ?_
  simp only [Act.put, List.setIfInBounds_toArray, List.set_cons_zero, List.set_cons_succ]
  refine T_value (get_op rfl) (by rfl) (by rfl) (.tuple #[.agg SV, .bool r]) (fun V hV => exec_wlook _ _ _ true (by rfl) V _ _ _ (by rfl) (by rfl) (HLKR.out V hV)) ?_
  simp only [Act.put, List.setIfInBounds_toArray, List.set_cons_zero, List.set_cons_succ]
  refine T_value (get_op rfl) (by rfl) (by rfl) (.tuple #[.agg SV, .bool r]) (fun _ _ => by go_simp) ?_
  simp only [Act.put, List.setIfInBounds_toArray, List.set_cons_zero, List.set_cons_succ]
  refine T_value (get_op rfl) (by rfl) (by rfl) (.agg SV) (fun _ _ => by go_simp) ?_
  simp only [Act.put, List.setIfInBounds_toArray, List.set_cons_zero, List.set_cons_succ]
  refine T_value (get_op rfl) (by rfl) (by rfl) (.bool r) (fun _ _ => by go_simp) ?_
  simp only [Act.put, List.setIfInBounds_toArray, List.set_cons_zero, List.set_cons_succ]
  refine T_alloc (get_op rfl) (by rfl) (by rfl) 69 #[.int .i64 0, .int .i64 0] (by rfl) (fun V => alloc_state V) (Lasts.later W1) Lasts.true W1.heap.size (fun V hV => hV.out.size) ?_
  intro Y hY
  simp only [Act.put, List.setIfInBounds_toArray, List.set_cons_zero, List.set_cons_succ]
  refine T_store (get_op rfl) (by rfl) (by rfl) 69 _ _ (by rfl) (by rfl) Y (by rfl) SV #[.int .i64 0, .int .i64 0] (by rfl) 69 HSS.out (by rw [HSZ.out]; rfl) HSO.out (fun _ => True) Lasts.true (fun V hV hf => ⟨hf.2, ⟨hV.out.trans' (Keeps.setRow Y SV) (fun i hi e => by omega)⟩, trivial⟩) ?_
  refine T_value (get_op rfl) (by rfl) (by rfl) (.bool r) (fun _ _ => by go_simp) ?_
  simp only [Act.put, List.setIfInBounds_toArray, List.set_cons_zero, List.set_cons_succ]
  refine T_nil ?_
  intro V hV _
  have HV := Lib.hid hV
  simp only [List.drop_succ_cons, List.drop_zero]
  go_wp2
  go_ret
  exact ⟨rfl, K1.out.trans HV.out.out⟩
end Go.Proofs.Ythnpgiagajfaiaa
