/-
  The statement DigestMeets, for every input, out of the contracts.
-/
import Derived.Test.YtmjpaopobnhckaaDgK
namespace Go.Proofs.Ytmjpaopobnhckaa
open Go.RowKit Go.BigFrame
set_option linter.unusedVariables false
set_option linter.unusedSimpArgs false

theorem flt_parts {α : Type} {enc : α → List Value} {ok : α → Prop} {n : Nat} (hn : ∀ x, ok x → (enc x).length = n) : ∀ (l : List α), (∀ q ∈ l, ok q) → ∀ (j : Nat) (u : Value), (flt enc l)[j]? = some u → ∃ (i q : Nat) (x : α), l[i]? = some x ∧ (enc x)[q]? = some u ∧ j = i * n + q
  | [], _, j, u, h => by simp [flt] at h
  | a :: l, hok, j, u, h => by
    have ha := hn a (hok a (by simp))
    have e : flt enc (a :: l) = enc a ++ flt enc l := by unfold flt; rw [List.flatMap_cons]
    rw [e] at h
    by_cases hj : j < n
    · rw [List.getElem?_append_left (by omega)] at h
      exact ⟨0, j, a, rfl, h, by omega⟩
    · rw [List.getElem?_append_right (by omega), ha] at h
      obtain ⟨i, q, x, h1, h2, h3⟩ := flt_parts hn l (fun q hq => hok q (by simp [hq])) (j - n) u h
      exact ⟨i + 1, q, x, by simpa using h1, h2, by rw [Nat.add_mul]; omega⟩
theorem IsList.cells {α : Type} {enc : α → List Value} {ok : α → Prop} {n : Nat} (hn : ∀ x, ok x → (enc x).length = n) {w : World} {ad : Addr} {len cap : Nat} {l : List α} (h : IsList enc ok n w (some ad) len cap l) : ∀ j u, (flt enc l)[j]? = some u → w.cell? (ad.add j) = some u := fun j u hu => by
  obtain ⟨i, q, x, h1, h2, rfl⟩ := flt_parts hn l h.okAll j u hu
  obtain ⟨_, ad', e, h3⟩ := h.at_ i x h1
  injection e with e
  subst e
  exact h3 q u h2
/-- 'append(x, y...)' of a row that lies somewhere onto a row of the call's own. -/
theorem wpList_append_list19 {P : Program} {α : Type} {enc : α → List Value} {ok : α → Prop} {w : World} {ops : Array Oper} {rest : List Oper} {o : Oper} {a : Act} {Q : Exit → Act → World → Prop} (hgd : o.guard = none) (s x : Operand) (t : TypeId)
    (ho : o.op = .call { callee := .builtin .append, args := #[s, x], argTypes := #[t, t] })
    (base : Nat) (e : TypeId) (i : TypeInfo) (z : Value) (size bytes : Nat) (ht : P.underlying t = some (.slice e)) (hi : P.info? e = some i) (hz : i.zero = some z)
    (hsize : i.size = size) (hby : i.bytes = bytes) (hzs : z.cells.size = size) (hsz : 0 < size)
    (v : Value) (n : Nat) (xs : List Value) (hs : a.eval s = v) (hown : w.ownsRow base e size v n xs)
    (A : Option Addr) (m c : Nat) (l : List α) (hx : a.eval x = .slice A m c) (hl : IsList enc ok size w A m c l) (hn : ∀ x, ok x → (enc x).length = size) (h1 : ∀ u ∈ flt enc l, u.oneCell' = true)
    (h63 : n + m ≤ maxLen) (hbytes : (n + m) * bytes ≤ 140737488355328) (hbase : base ≤ w.heap.size)
    (h : ∀ v' w', w'.ownsRow base e size v' (n + m) (xs ++ flt enc l) → w.grownBy w' v.ownBlock → wpList P ops Q rest (a.put o.dst v') w') :
    wpList P ops Q (o :: rest) a w := by
  refine wpList_plain hgd fun _ hK => ?_
  obtain ⟨v', w', hr, h2, h3⟩ : ∃ v' w', (Builtin.append_ #[t, t] o.type #[v, .slice A m c]).run P w = .ok v' w' ∧ w'.ownsRow base e size v' (n + m) (xs ++ flt enc l) ∧ w.grownBy w' v.ownBlock := by
    cases A with
    | none =>
      have hc := hl.nil rfl
      have hm : m = 0 := by have := hl.le; omega
      subst hc
      subst hm
      have hll : l = [] := List.eq_nil_of_length_eq_zero hl.many
      subst hll
      exact run_append_hashes (P := P) w base t o.type e i z size bytes ht hi hz hsize hby hzs hsz v n xs hown (.slice none 0 0) 0 [] base (World.ownsRow_nil _ _ _ _) (fun u hu => by cases hu) h63 hbytes hbase
    | some ad =>
      obtain ⟨v', w', hr, h2, h3, _⟩ := run_append_own (P := P) w base t o.type e i z size bytes ht hi hz hsize hby hzs hsz v n xs hown ad m c (flt enc l) (by rw [flt_length hn l hl.okAll, hl.many]) (hl.cells hn) h1 h63 hbytes hbase
      exact ⟨v', w', hr, h2, h3⟩
  unfold Oper.wp execOp
  simp only [ho, resolve, invoke, builtin, Sem.run_bind, Sem.run_pure, Result.andThen_ok, List.map_toArray, List.map_cons, List.map_nil, hs, hx, hr]
  exact hK _ _ (h v' w' h2 h3)
theorem flt_app {α : Type} (enc : α → List Value) (a b : List α) : flt enc (a ++ b) = flt enc a ++ flt enc b := by unfold flt; rw [List.flatMap_append]
theorem flt_one {α : Type} {enc : α → List Value} (h : ∀ x, ∀ u ∈ enc x, u.oneCell' = true) (l : List α) : ∀ u ∈ flt enc l, u.oneCell' = true := fun u hu => by
  obtain ⟨x, _, hx⟩ := List.mem_flatMap.1 hu
  exact h x u hx
theorem build_G1 (A : Option Addr) (n c : Nat) (V : World) : (Instr.build 26 #[(0, .slice A n c)]).run Try.prog V = .ok (.agg (dcs (.slice A n c) (.slice none 0 0))) V := by kernel_rfl
/-- A struct is built under a guard that holds, by its run. -/
theorem wpList_madeW {P : Program} {w : World} {ops : Array Oper} {rest : List Oper} {o : Oper} {a : Act} {Q : Exit → Act → World → Prop} (hw : Region.wanted o (yielded ops a.tmps) = true) (t : TypeId) (parts : List (Nat × Operand)) (ho : o.op = .build t parts.toArray) (vs : List (Nat × Value)) (hx : parts.map (fun (i, x) => (i, a.eval x)) = vs)
    (v : Value) (hrun : ∀ w, (Instr.build t vs.toArray).run P w = .ok v w) (h : wpList P ops Q rest (a.put o.dst v) w) : wpList P ops Q (o :: rest) a w := by
  refine wpList_wanted hw fun _ hK => ?_
  unfold Oper.wp execOp
  simp only [ho, List.map_toArray, hx, Sem.run_bind, Sem.run_pure, Result.andThen_ok, hrun]
  exact hK _ _ h
theorem LH.none (w : World) : LH w none 0 0 [] := IsList.empty _ _ _ _
theorem had19 {a b : List Ft.Key} : Dg.knot b (a ++ Dg.knot b a) = [] := Dg.knot_sub (fun x hx => by
  by_cases h : x ∈ a
  · exact List.mem_append.2 (.inl h)
  · exact List.mem_append.2 (.inr ((Dg.mem_knot _ _ _).2 ⟨hx, h⟩)))
set_option maxRecDepth 100000 in
set_option maxHeartbeats 4000000 in
theorem meets_walk (C : Digs) (AW : Awake19) (A : Option Addr) (n c : Nat) (xa : List Ft.Key) (A2 : Option Addr) (m d : Nat) (xb : List Ft.Key) (W : World) (hA : LK W A n c xa) (hB : LK W A2 m d xb) :
    Calls Try.prog 6 #[.slice A n c, .slice A2 m d] W fun e w' => e = .returned (.bool true) ∧ Below W.heap.size W w' := by
  have CC := Lib.hid C
  have HAW := Lib.hid (AW W)
  have HA := Lib.hid hA
  have HB := Lib.hid hB
  obtain ⟨Z, hZ⟩ : ∃ Z, dcs (.slice none 0 0) (.slice none 0 0) = Z := ⟨_, rfl⟩
  have hz : ∀ V : World, (zeroValue 26).run Try.prog V = .ok (.agg Z) V := fun V => by rw [← hZ]; exact zero_G V
  have HZ := Lib.hid hZ
  have hnx := hA.max
  have hna := hA.le
  have hmx := hB.max
  have hma := hB.le
  obtain ⟨ih, zh, hih, hzh, hsh, hbh, hzsh⟩ := info_keys_in
  have HII := Lib.hid (And.intro hih (And.intro hzh (And.intro hsh (And.intro hbh hzsh))))
  have HN : Hid (xa.length = n ∧ xb.length = m) := Lib.hid ⟨hA.many, hB.many⟩
  clear C AW hA hB hZ hih hzh hsh hbh hzsh
  go_enter Try.func6, Try.ntmps6
  go_wp2_with fail
  refine HAW.out.mono ?_
  rintro e w1 ⟨rfl, k1⟩
  have K1 := Lib.hid k1
  clear k1 HAW
  by_cases h1 : 30 < n
  · have i1 : (30 : Int) < (n : Int) := by omega
    go_wp2_with fail
    go_ret
    exact ⟨rfl, K1.out.below (by omega) (fun _ _ => id)⟩
  have i1 : ¬ (30 : Int) < (n : Int) := by omega
  by_cases h2 : 30 < m
  · have i2 : (30 : Int) < (m : Int) := by omega
    go_wp2_with fail
    go_ret
    exact ⟨rfl, K1.out.below (by omega) (fun _ _ => id)⟩
  have i2 : ¬ (30 : Int) < (m : Int) := by omega
  have ea : Dg.last xa = xa := last_small (by have := HN.out.1; omega)
  have eb : Dg.last xb = xb := last_small (by have := HN.out.2; omega)
  have en : Dg.last ([] : List (List UInt8)) = [] := rfl
  go_wp2_with fail
  have hm1 := CC.out.make w1 A none n c 0 0 xa [] (HA.out.later K1.out) (LH.none _) (by omega) (by omega)
  rw [ea, en, HN.out.1] at hm1
  refine hm1.mono ?_
  rintro e w2 ⟨B3, c3, B4, c4, rfl, k2, l2, m2⟩
  obtain ⟨D1, hD1⟩ : ∃ D, dcs (.slice B3 n c3) (.slice B4 0 c4) = D := ⟨_, rfl⟩
  obtain ⟨b6, V3, W3, hb3, hV3, hW3, r3, r3', k3⟩ := lay_digest w2 26 D1 Z
  have K3 := Lib.hid ((K1.out.trans k2).trans k3)
  have L1 : Hid (LK W3 B3 n c3 xa ∧ LH W3 B4 0 c4 []) := Lib.hid (And.intro (l2.later k3) (m2.later k3))
  have R3 := Lib.hid r3
  have R3' := Lib.hid r3'
  have SD1 : Hid ((Try.prog.info? 26).map (·.size) = some D1.size ∧ Z.size = D1.size ∧ D1.all (·.oneCell') = true) := Lib.hid ⟨by rw [← hD1]; exact size_G _ _, by rw [← hD1, ← HZ.out]; rfl, by rw [← hD1]; exact dcs_one _ _ _ _ _ _⟩
  have HD1 := Lib.hid hD1
  have e1 : (.agg (dcs (.slice B3 n c3) (.slice B4 ([] : List (List UInt8)).length c4)) : Value) = .agg D1 := by rw [← hD1]; rfl
  rw [e1]
  clear k2 l2 m2 k3 r3 r3' hD1 hm1 e1
  go_wp2_with (first
    | (refine wpList_store_row (by rfl) 26 _ _ (by rfl) b6 D1 (by rfl) (by rfl) 26 Z R3.out SD1.out.1 SD1.out.2.1 SD1.out.2.2 ?_; rw [hW3])
    | fail)
  have hm2 := CC.out.make W3 A2 none m d 0 0 xb [] (HB.out.later K3.out) (LH.none _) (by omega) (by omega)
  rw [eb, en, HN.out.2] at hm2
  refine hm2.mono ?_
  rintro e w4 ⟨E3, d3, E4, d4, rfl, k4, l4, m4⟩
  obtain ⟨D2, hD2⟩ : ∃ D, dcs (.slice E3 m d3) (.slice E4 0 d4) = D := ⟨_, rfl⟩
  obtain ⟨b7, V5, W5, hb5, hV5, hW5, r5, r5', k5⟩ := lay_digest w4 26 D2 Z
  have K5 := Lib.hid ((K3.out.trans k4).trans k5)
  have L2 : Hid (LK W5 E3 m d3 xb ∧ LH W5 E4 0 d4 []) := Lib.hid (And.intro (l4.later k5) (m4.later k5))
  have L1' : Hid (LK W5 B3 n c3 xa ∧ LH W5 B4 0 c4 []) := Lib.hid (And.intro ((L1.out.1.later k4).later k5) ((L1.out.2.later k4).later k5))
  have R5 := Lib.hid r5
  have R5' := Lib.hid r5'
  have R6 : Hid (W5.heap[b6]? = some (.cells D1 26 (0, 0))) := Lib.hid (((k4.trans k5).block b6 (Array.getElem?_eq_some_iff.1 R3'.out).1 id).trans R3'.out)
  have SD2 : Hid ((Try.prog.info? 26).map (·.size) = some D2.size ∧ Z.size = D2.size ∧ D2.all (·.oneCell') = true) := Lib.hid ⟨by rw [← hD2]; exact size_G _ _, by rw [← hD2, ← HZ.out]; rfl, by rw [← hD2]; exact dcs_one _ _ _ _ _ _⟩
  have e2 : (.agg (dcs (.slice E3 m d3) (.slice E4 ([] : List (List UInt8)).length d4)) : Value) = .agg D2 := by rw [← hD2]; rfl
  have h3 := CC.out.wants W5 A E3 E4 n c m d3 0 d4 xa xb [] (HA.out.later K5.out) L2.out.1 L2.out.2 (by omega) (by omega) (by omega)
  rw [hD2] at h3
  have HD2 := Lib.hid hD2
  have H3 := Lib.hid h3
  rw [e2]
  clear k4 l4 m4 k5 r5 r5' hD2 hm2 e2 h3 R3 R3' hb3 hV3 hW3 L1
  go_wp2_with (first
    | (refine wpList_store_row (by rfl) 26 _ _ (by rfl) b7 D2 (by rfl) (by rfl) 26 Z R5.out SD2.out.1 SD2.out.2.1 SD2.out.2.2 ?_; rw [hW5])
    | (refine wpList_load_row (by rfl) 26 _ (by rfl) b7 (by rfl) 26 D2 (0, 0) _ R5'.out Try.underlying26 rfl SD2.out.1 ?_)
    | fail)
  refine H3.out.mono ?_
  rintro e w6 ⟨P, pc, rfl, k6, l6⟩
  have K6 := Lib.hid (K5.out.trans k6)
  have KA6 := Lib.hid k6
  have L6 := Lib.hid l6
  have R6b : Hid (w6.heap[b6]? = some (.cells D1 26 (0, 0))) := Lib.hid ((k6.block b6 (Array.getElem?_eq_some_iff.1 R6.out).1 id).trans R6.out)
  have R7b : Hid (w6.heap[b7]? = some (.cells D2 26 (0, 0))) := Lib.hid ((k6.block b7 (Array.getElem?_eq_some_iff.1 R5'.out).1 id).trans R5'.out)
  have h4 := CC.out.lacks w6 A2 B3 B4 m d n c3 0 c4 xb xa [] (HB.out.later K6.out) (L1'.out.1.later k6) (L1'.out.2.later k6) (by omega) (by omega) (by omega)
  rw [HD1.out] at h4
  have H4 := Lib.hid h4
  clear k6 l6 h4 H3 R5 R6 R5' hb5 hV5 hW5 L1'
  go_wp2_with (first
    | (refine wpList_load_row (by rfl) 26 _ (by rfl) b6 (by rfl) 26 D1 (0, 0) _ R6b.out Try.underlying26 rfl SD1.out.1 ?_)
    | fail)
  refine H4.out.mono ?_
  rintro e w7 ⟨Q, qc, rfl, k7, l7⟩
  have K7 := Lib.hid (K6.out.trans k7)
  have KA7 := Lib.hid (KA6.out.trans k7)
  have L7 : Hid (LK w7 P (Dg.knot xb xa).length pc (Dg.knot xb xa) ∧ LK w7 Q (Dg.knot xb xa).length qc (Dg.knot xb xa)) := Lib.hid ⟨L6.out.later k7, l7⟩
  have R7 : Hid (w7.heap[b7]? = some (.cells D2 26 (0, 0))) := Lib.hid ((k7.block b7 (Array.getElem?_eq_some_iff.1 R7b.out).1 id).trans R7b.out)
  clear k7 l7 H4 R6b R7b
  go_wp2_with fail
  refine (keyssame_eq w7 P Q _ pc qc _ L7.out.1 L7.out.2).mono ?_
  rintro e w8 ⟨rfl, k8⟩
  have K8 := Lib.hid (K7.out.trans k8)
  have KW5 := Lib.hid (KA7.out.trans k8)
  have L8 : Hid (LK w8 P (Dg.knot xb xa).length pc (Dg.knot xb xa)) := Lib.hid (L7.out.1.later k8)
  have R8 : Hid (w8.heap[b7]? = some (.cells D2 26 (0, 0))) := Lib.hid ((k8.block b7 (Array.getElem?_eq_some_iff.1 R7.out).1 id).trans R7.out)
  have hkl := Dg.knot_le xa xb
  have HKL := Lib.hid (show xb.length = m from HN.out.2)
  obtain ⟨t, ht⟩ : ∃ t, (Dg.knot xb xa).length = t := ⟨_, rfl⟩
  have ht30 : t ≤ 30 := by have := HN.out.2; omega
  rw [ht] at L8 ⊢
  have HTT := Lib.hid ht
  obtain ⟨B, hBs⟩ : ∃ B, w8.heap.size = B := ⟨_, rfl⟩
  have HBS := Lib.hid hBs
  clear k8 L7 R7 hkl ht hBs
  have H11 : Hid (∀ V (X : Option Addr) (xc : Nat), Keeps (fun _ => False) W V → Keeps (fun _ => False) W5 V → LK V X (n + t) xc (xa ++ Dg.knot xb xa) → Calls Try.prog 14 #[.slice X (n + t) xc, .agg D2] V fun e w' => ∃ (A' : Option Addr) (c' : Nat), e = .returned (.slice A' 0 c') ∧ Keeps (fun _ => False) V w') := Lib.hid (fun V X xc kV k5V hX => by
    have h := CC.out.wants V X E3 E4 (n + t) xc m d3 0 d4 (xa ++ Dg.knot xb xa) xb [] hX (L2.out.1.later k5V) (L2.out.2.later k5V) (by omega) (by omega) (by omega)
    rw [HD2.out, had19] at h
    exact h.mono (fun e w' ⟨A', c', h1, h2, _⟩ => ⟨A', c', h1, h2⟩))
  have H12 : Hid (∀ V (X : Option Addr) (xc : Nat), Keeps (fun _ => False) W V → LK V X (n + t) xc (xa ++ Dg.knot xb xa) → Calls Try.prog 16 #[.slice A2 m d, .agg (dcs (.slice X (n + t) xc) (.slice none 0 0))] V fun e w' => ∃ (A' : Option Addr) (c' : Nat), e = .returned (.slice A' 0 c') ∧ Keeps (fun _ => False) V w') := Lib.hid (fun V X xc kV hX => by
    have h := CC.out.lacks V A2 X none m d (n + t) xc 0 0 xb (xa ++ Dg.knot xb xa) [] (HB.out.later kV) hX (LH.none _) (by omega) (by omega) (by omega)
    rw [had19] at h
    exact h.mono (fun e w' ⟨A', c', h1, h2, _⟩ => ⟨A', c', h1, h2⟩))
  go_wp2_with (first
    | (refine wpList_append_list19 (by rfl) _ _ 22 (by rfl) B 54 ih zh 33 40 Try.underlying22 HII.out.1 HII.out.2.1 HII.out.2.2.1 HII.out.2.2.2.1 HII.out.2.2.2.2 (by decide) (.slice none 0 0) 0 [] (by rfl) (World.ownsRow_nil _ _ _ _) A n c xa (by rfl) (HA.out.later K8.out) kcs_len (flt_one kcs_one _) (by unfold maxLen; omega) (by omega) (by have := HBS.out; omega) ?_; intro v9 w9 ho9 hg9; rw [List.nil_append, Nat.zero_add] at ho9; have HO9 := Lib.hid ho9; have K9 : Hid (Keeps (fun _ => False) w8 w9) := Lib.hid ((Keeps.refl _ _).grown hg9 (fun _ _ h => by cases h)); obtain ⟨A9, c9, rfl⟩ := own_slice ho9; clear ho9 hg9)
    | (refine wpList_append_list19 (by rfl) _ _ 22 (by rfl) B 54 ih zh 33 40 Try.underlying22 HII.out.1 HII.out.2.1 HII.out.2.2.1 HII.out.2.2.2.1 HII.out.2.2.2.2 (by decide) (.slice A9 n c9) n (flt kcs xa) (by rfl) HO9.out P t pc (Dg.knot xb xa) (by rfl) (L8.out.later K9.out) kcs_len (flt_one kcs_one _) (by unfold maxLen; omega) (by omega) (by have := HBS.out; have := K9.out.size; omega) ?_; intro v10 w10 ho10 hg10; rw [← flt_app] at ho10; have k10 : Keeps (fun _ => False) w8 w10 := K9.out.trans' (own_grow19 HO9.out hg10) (fun j hj e => by have := HBS.out; omega); obtain ⟨X, xc, rfl⟩ := own_slice ho10; have K10 := Lib.hid (K8.out.trans k10); have r10 : w10.heap[b7]? = some (.cells D2 26 (0, 0)) := (k10.block b7 (Array.getElem?_eq_some_iff.1 R8.out).1 id).trans R8.out; have R10 := Lib.hid r10; have hlen : (xa ++ Dg.knot xb xa).length = n + t := by rw [List.length_append, HN.out.1, HTT.out]
       have hx10 : LK w10 X (n + t) xc (xa ++ Dg.knot xb xa) := (by have h := ho10; rw [← hlen] at h ⊢; exact IsList.of_own kcs_len (by decide) (fun x hx => by rcases List.mem_append.1 hx with hx | hx; exact HA.out.okAll x hx; exact HB.out.okAll x ((Dg.mem_knot _ _ _).1 hx).1) h)
       have HX10 := Lib.hid hx10; have H13 := Lib.hid (H11.out w10 X xc K10.out (by exact (KW5.out.trans k10)) hx10); clear ho10 hg10 k10 r10 hlen hx10 H11 HO9 K9)
    | (refine wpList_load_row (by rfl) 26 _ (by rfl) b7 (by rfl) 26 D2 (0, 0) _ R10.out Try.underlying26 rfl SD2.out.1 ?_)
    | fail)
  refine H13.out.mono ?_
  rintro e w11 ⟨Y, yc, rfl, k11⟩
  have K11 := Lib.hid (K10.out.trans k11)
  obtain ⟨D3, hD3⟩ : ∃ D, dcs (.slice X (n + t) xc) (.slice none 0 0) = D := ⟨_, rfl⟩
  have HB3 : Hid (∀ V : World, (Instr.build 26 #[(0, .slice X (n + t) xc)]).run Try.prog V = .ok (.agg D3) V) := Lib.hid (fun V => by rw [← hD3]; exact build_G1 _ _ _ V)
  have h14 := H12.out w11 X xc K11.out (HX10.out.later k11)
  rw [hD3] at h14
  have H14 := Lib.hid h14
  clear k11 hD3 h14 H12 HX10 H13
  go_wp2_with (first
    | (refine wpList_madeW (by rfl) 26 [(0, .tmp 49)] (by rfl) [(0, .slice X (n + t) xc)] (by rfl) (.agg D3) HB3.out ?_)
    | fail)
  refine H14.out.mono ?_
  rintro e w12 ⟨Y2, yc2, rfl, k12⟩
  have K12 := Lib.hid (K11.out.trans k12)
  clear k12
  go_wp2
  go_ret
  exact ⟨rfl, K12.out.below (by omega) (fun _ _ => id)⟩
end Go.Proofs.Ytmjpaopobnhckaa
