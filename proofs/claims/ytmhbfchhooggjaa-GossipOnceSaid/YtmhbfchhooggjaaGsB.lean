/-
  gossip.others: who is gathered (a closure that writes into a map and a row of its own), one by one.
-/
import Derived.Test.YtmhbfchhooggjaaGsA
import Derived.Test.YtmhbfchhooggjaaInsT
namespace Go.Proofs.Ytmhbfchhooggjaa
open Go.RowKit Go.BigFrame
set_option linter.unusedVariables false
set_option linter.unusedSimpArgs false

theorem lay_box (V : World) (ty : TypeId) (C : Array Value) (Z : Array Value) : ∃ (b : Nat) (V1 V2 : World), V.heap.size = b ∧ V.alloc (.cells Z ty) = V1 ∧ V1.setRow b C = V2 ∧ V1.heap[b]? = some (.cells Z ty (0, 0)) ∧ V2.heap[b]? = some (.cells C ty (0, 0)) ∧ Keeps (fun _ => False) V V2 := by
  refine ⟨_, _, _, rfl, rfl, rfl, heap_alloc_new V _, setRow_heap _ _ _ _ _ _ (heap_alloc_new V _), ?_⟩
  exact ((Keeps.refl (fun _ => False) V).alloc _).trans' (T := fun j => j = V.heap.size) (Keeps.setRow _ _) (fun j hj e => by omega)
theorem alloc_M (V : World) : (Instr.alloc 69 true (.tuple #[])).run Try.prog V = .ok (.pointer (some ⟨V.heap.size, 0, none⟩)) (V.alloc (.cells #[.map none] 69)) := by kernel_rfl
theorem info_M : (Try.prog.info? 69).map (·.size) = some 1 := by kernel_rfl
/-- In the midst of gathering: the closure's three variables, the map, the row. -/
structure Gth (w0 : World) (bm bg bp gp m B many : Nat) (L o : List Int) (A : Option Addr) (n c : Nat) (w : World) : Prop where
  vm : Row w bm 69 [.map (some m)]
  vg : Row w bg 25 [.pointer (some ⟨gp, 0, none⟩)]
  vp : Row w bp 34 [.slice A n c]
  set : ISet w m L
  row : w.ownsRow B 3 1 (.slice A n c) n (ivs o)
  many : w.cell? ⟨gp, 1, none⟩ = some (.int .i64 (many : Int))
  low : gp < w0.heap.size ∧ w0.heap.size ≤ bm ∧ w0.heap.size ≤ bg ∧ w0.heap.size ≤ bp ∧ w0.heap.size ≤ m
  high : bm < B ∧ bg < B ∧ bp < B ∧ m < B ∧ B ≤ w.heap.size
  ne : bm ≠ bp ∧ bg ≠ bp
  keeps : Keeps (fun _ => False) w0 w
section
variable {w0 w w' : World} {bm bg bp gp m B many : Nat} {L o : List Int} {A : Option Addr} {n c : Nat}
theorem Gth.mne (h : Gth w0 bm bg bp gp m B many L o A n c w) : m ≠ bm ∧ m ≠ bg ∧ m ≠ bp := ⟨IMap.apart h.set h.vm, IMap.apart h.set h.vg, IMap.apart h.set h.vp⟩
theorem Gth.later (h : Gth w0 bm bg bp gp m B many L o A n c w) (hk : Keeps (fun _ => False) w w') : Gth w0 bm bg bp gp m B many L o A n c w' :=
  ⟨h.vm.keeps hk id, h.vg.keeps hk id, h.vp.keeps hk id, h.set.keeps hk id, hk.owns h.row (fun _ _ => id), (hk.cell (World.block_lt_of_cell? _ _ h.many) id).trans h.many, h.low, ⟨h.high.1, h.high.2.1, h.high.2.2.1, h.high.2.2.2.1, Nat.le_trans h.high.2.2.2.2 hk.size⟩, h.ne, h.keeps.trans hk⟩
end
/-- Who is gathered, and in which order, one more. -/
def gst (many : Nat) (s : List Int × List Int) (x : Int) : List Int × List Int := if x ∈ s.1 ∨ ¬ (0 ≤ x ∧ x ≤ (many : Int) - 1) then s else (s.1 ++ [x], s.2 ++ [x])
set_option maxRecDepth 100000 in
set_option maxHeartbeats 1000000 in
theorem gather_any {w0 w : World} {bm bg bp gp m B many : Nat} {L o : List Int} {A : Option Addr} {n c : Nat} (x : Int) (h : Gth w0 bm bg bp gp m B many L o A n c w) (hn : n ≤ 1000) (hmn : 1 ≤ many ∧ many ≤ 64) :
    Calls Try.prog 26 #[.int .i64 x, .pointer (some ⟨bm, 0, none⟩), .pointer (some ⟨bg, 0, none⟩), .pointer (some ⟨bp, 0, none⟩)] w fun e w' => e = .returned (.tuple #[]) ∧ ∃ (A' : Option Addr) (n' c' : Nat), Gth w0 bm bg bp gp m B many (gst many (L, o) x).1 (gst many (L, o) x).2 A' n' c' w' := by
  obtain ⟨ih, zh, hih, hzh, hsh, hbh, hzsh⟩ := info_in
  have HII := Lib.hid (And.intro hih (And.intro hzh (And.intro hsh (And.intro hbh hzsh))))
  obtain ⟨g1, V1, V2, hg1, hV1, hV2, r1, r2, k2⟩ := lay_box w 63 #[] #[]
  have h2 := h.later k2
  have hc1 : w.cell? ⟨bm, 0, none⟩ = some (.map (some m)) := h.vm.cell 0
  have hc2 : V2.cell? ⟨bg, 0, none⟩ = some (.pointer (some ⟨gp, 0, none⟩)) := h2.vg.cell 0
  have hc3 : V2.cell? ⟨gp, 1, none⟩ = some (.int .i64 (many : Int)) := h2.many
  have hc4 : V2.cell? ⟨bm, 0, none⟩ = some (.map (some m)) := h2.vm.cell 0
  have H2 := Lib.hid h2
  have HS := Lib.hid h.set
  have R1 := Lib.hid r1
  have HW := Lib.hid (fun V => gwithin_any x 0 ((many : Int) - 1) V)
  by_cases hx : x ∈ L
  · have HD : Hid (true = true ↔ x ∈ L) := Lib.hid ⟨fun _ => hx, fun _ => rfl⟩
    have HG : Hid (gst many (L, o) x = (L, o)) := Lib.hid (if_pos (.inl hx))
    clear h h2 r1 r2 k2 hx hih hzh hsh hbh hzsh
    go_enter Try.func26, Try.ntmps26
    go_wp2_with (first
      | (refine wpList_map_look_ok (by rfl) (.tmp 8) (.tmp 9) 69 3 63 (by rfl) Try.underlying69 Try.underlying3 (.agg #[]) zero_S m (fset L) x (.agg #[]) true (by rfl) (by rfl) HS.out (fset_val L x) (fset_in HD.out) ?_)
      | (refine wpList_store_row (by rfl) 63 _ _ (by rfl) g1 #[] (by rfl) (by rfl) 63 #[] R1.out info_S rfl (by simp) ?_; rw [hV2])
      | fail)
    refine bodyPost_ret (results_none rfl _ _ _) rfl ?_
    exact ⟨rfl, A, n, c, by rw [HG.out]; exact H2.out⟩
  · have HD : Hid (false = true ↔ x ∈ L) := Lib.hid ⟨fun h => (by cases h), fun h => absurd h hx⟩
    obtain ⟨r, hr⟩ : ∃ r, decide (0 ≤ x ∧ x ≤ (many : Int) - 1) = r := ⟨_, rfl⟩
    rw [hr] at HW
    cases r with
    | false =>
      have HG : Hid (gst many (L, o) x = (L, o)) := Lib.hid (if_pos (.inr (of_decide_eq_false hr)))
      clear h h2 r1 r2 k2 hx hih hzh hsh hbh hzsh hr
      go_enter Try.func26, Try.ntmps26
      go_wp2_with (first
        | (refine wpList_map_look_ok (by rfl) (.tmp 8) (.tmp 9) 69 3 63 (by rfl) Try.underlying69 Try.underlying3 (.agg #[]) zero_S m (fset L) x (.agg #[]) false (by rfl) (by rfl) HS.out (fset_val L x) (fset_in HD.out) ?_)
        | (refine wpList_store_row (by rfl) 63 _ _ (by rfl) g1 #[] (by rfl) (by rfl) 63 #[] R1.out info_S rfl (by simp) ?_; rw [hV2])
        | fail)
      refine (HW.out _).mono ?_
      rintro e w1 ⟨rfl, e1⟩
      obtain rfl : V2 = w1 := e1.symm
      go_wp2
      refine bodyPost_ret (results_none rfl _ _ _) rfl ?_
      exact ⟨rfl, A, n, c, by rw [HG.out]; exact H2.out⟩
    | true =>
      have HG : Hid (gst many (L, o) x = (L ++ [x], o ++ [x])) := Lib.hid (if_neg (by rintro (h1 | h1); exact hx h1; exact h1 (of_decide_eq_true hr)))
      clear h h2 r1 r2 k2 hx hih hzh hsh hbh hzsh hr
      go_enter Try.func26, Try.ntmps26
      go_wp2_with (first
        | (refine wpList_map_look_ok (by rfl) (.tmp 8) (.tmp 9) 69 3 63 (by rfl) Try.underlying69 Try.underlying3 (.agg #[]) zero_S m (fset L) x (.agg #[]) false (by rfl) (by rfl) HS.out (fset_val L x) (fset_in HD.out) ?_)
        | (refine wpList_store_row (by rfl) 63 _ _ (by rfl) g1 #[] (by rfl) (by rfl) 63 #[] R1.out info_S rfl (by simp) ?_; rw [hV2])
        | fail)
      refine (HW.out _).mono ?_
      rintro e w1 ⟨rfl, e1⟩
      obtain rfl : V2 = w1 := e1.symm
      have HSS : Hid (∀ V : World, (Instr.build 63 #[]).run Try.prog V = .ok (.agg #[]) V) := Lib.hid build_S
      go_wp2_with (first
        | (refine wpList_made (by rfl) 63 [] (by rfl) [] (by rfl) (.agg #[]) HSS.out ?_)
        | (refine wpList_map_store (by rfl) _ _ _ 69 3 63 (by rfl) Try.underlying69 Try.underlying3 m (fset L) x (.agg #[]) (by rfl) (by rfl) (by rfl) H2.out.set ?_; intro w5 hm5 hk5; rw [fset_snoc] at hm5; have HM5 : Hid (ISet w5 m (L ++ [x])) := Lib.hid hm5; have HK5 := Lib.hid hk5; have hp5 : w5.cell? ⟨bp, 0, none⟩ = some (.slice A n c) := (H2.out.vp.keeps hk5 (fun e => H2.out.mne.2.2 (show bp = m from e).symm)).cell 0; obtain ⟨V6, hV6⟩ : ∃ V, w5.alloc (.cells #[.int .i64 x] 3) = V := ⟨_, rfl⟩; have HBI := Lib.hid (build_int x w5); rw [hV6] at HBI; have KV6 : Hid (Keeps (fun _ => False) w5 V6) := Lib.hid (by rw [← hV6]; exact (Keeps.refl _ _).alloc _); have RV6 : Hid (Src V6 (some ⟨w5.heap.size, 0, none⟩) [Value.int .i64 x]) := Lib.hid (by rw [← hV6]; exact fun j u hu => ⟨_, rfl, World.news_of_block (heap_alloc_new w5 _) j u hu⟩); clear hm5 hk5 hV6)
        | (refine wpList_buildSlice_run17 (by rfl) 34 1 0 _ (by rfl) _ _ (by rfl) HBI.out ?_; have O6 : Hid (V6.ownsRow B 3 1 (.slice A n c) n (ivs o)) := Lib.hid (KV6.out.owns (HK5.out.owns H2.out.row (fun b hb e => by obtain ⟨_, _, h0⟩ := own_block H2.out.row b hb; have e' : b = m := e; have := H2.out.high; omega)) (fun _ _ => id)); have HB6 : Hid (B ≤ V6.heap.size) := Lib.hid (by have := H2.out.high; have := HK5.out.size; have := KV6.out.size; omega))
        | (refine wpList_append_src _ (by rfl) _ _ 34 (by rfl) B 3 ih zh 8 Try.underlying34 HII.out.1 HII.out.2.1 HII.out.2.2.1 HII.out.2.2.2.1 HII.out.2.2.2.2 (.slice A n c) n (ivs o) (by rfl) O6.out (some ⟨w5.heap.size, 0, none⟩) 1 1 [.int .i64 x] (by rfl) (by rfl) RV6.out (by intro u hu; cases hu with | head => rfl | tail _ h => cases h) (by unfold maxLen; omega) (by omega) HB6.out ?_; intro v7 V7 ho7 hg7 hob7; have K7 : Hid (Keeps (fun j => (Value.slice A n c).ownBlock = some j) V6 V7) := Lib.hid ((Keeps.refl _ _).grown hg7 (fun _ _ h => h)); have HP7 : Hid (Row V7 bp 34 [.slice A n c]) := Lib.hid (((H2.out.vp.keeps HK5.out (fun e => H2.out.mne.2.2 (show bp = m from e).symm)).keeps KV6.out id).keeps K7.out (fun e => by obtain ⟨_, _, h0⟩ := own_block O6.out bp e; have := H2.out.high; omega)); have hc7 : V7.cell? ⟨bp, 0, none⟩ = some (.slice A n c) := HP7.out.cell 0; have hf7 : V7.frozen? ⟨bp, 0, none⟩ = false := HP7.out.frozen 0; obtain ⟨A7, c7, rfl⟩ := own_slice ho7; have HO7 := Lib.hid ho7; clear ho7 hg7 hob7)
        | fail)
      go_end0
      rw [HG.out]
      have k7 : Keeps (fun j => j = bp) V7 (V7.setCell ⟨bp, 0, none⟩ (.slice A7 (n + 1) c7)) := (Keeps.refl (fun j => j = bp) V7).setCell (p := ⟨bp, 0, none⟩) (fun _ => rfl) _
      have hnot : ∀ j, (Value.slice A n c).ownBlock = some j → B ≤ j := fun j hj => by obtain ⟨_, _, h0⟩ := own_block O6.out j hj; exact h0
      have h := H2.out
      have hh := h.high
      have hl := h.low
      have hne := h.mne
      have hnn := h.ne
      have ka : Keeps (fun j => j = m ∨ j = bp ∨ B ≤ j) V2 (V7.setCell ⟨bp, 0, none⟩ (.slice A7 (n + 1) c7)) :=
        (((HK5.out.mono (fun _ _ e => .inl e)).trans (KV6.out.mono (fun _ _ e => e.elim))).trans (K7.out.mono (fun j _ e => .inr (.inr (hnot j e))))).trans (k7.mono (fun _ _ e => .inr (.inl e)))
      refine ⟨rfl, A7, n + 1, c7, h.vm.keeps ka ?_, h.vg.keeps ka ?_, HP7.out.set 0 _, ((HM5.out.keeps KV6.out id).keeps K7.out ?_).keeps k7 ?_, ?_, ?_, h.low, ⟨hh.1, hh.2.1, hh.2.2.1, hh.2.2.2.1, ?_⟩, h.ne, h.keeps.trans' ka ?_⟩
      · rintro (e | e | e) <;> omega
      · rintro (e | e | e) <;> omega
      · exact fun e => by have := hnot m e; omega
      · exact hne.2.2
      · have ho := k7.owns HO7.out (fun b hb e => by obtain ⟨_, _, h0⟩ := own_block HO7.out b hb; have e' : b = bp := e; omega)
        rw [show ivs ((L ++ [x], o ++ [x]) : List Int × List Int).2 = ivs o ++ [Value.int .i64 x] from (ivs_append o [x]).symm]
        exact ho
      · refine (ka.cell (World.block_lt_of_cell? _ _ h.many) ?_).trans h.many
        show ¬ (gp = m ∨ gp = bp ∨ B ≤ gp)
        rintro (e | e | e) <;> omega
      · have := ka.size; omega
      · intro i hi
        rintro (e | e | e) <;> omega
theorem gst_oth {t : Gp.G} {but : Int} {L pre : List Int} (x : Int) (hL : ∀ y, y ∈ L ↔ (y = (t.me : Int) ∨ y = but) ∨ y ∈ Gp.oth t pre but) :
    (gst t.many (L, Gp.oth t pre but) x).2 = Gp.oth t (pre ++ [x]) but ∧ ∀ y, y ∈ (gst t.many (L, Gp.oth t pre but) x).1 ↔ (y = (t.me : Int) ∨ y = but) ∨ y ∈ (gst t.many (L, Gp.oth t pre but) x).2 := by
  unfold gst
  rw [Gp.oth_snoc]
  by_cases hx : x ∈ L ∨ ¬ (0 ≤ x ∧ x ≤ (t.many : Int) - 1)
  · rw [if_pos hx, if_neg ?_]
    · exact ⟨rfl, hL⟩
    · intro hc
      simp only [Gp.can, Bool.and_eq_true, decide_eq_true_eq, Bool.not_eq_true', decide_eq_false_iff_not] at hc
      obtain ⟨⟨h0, h1, h2, h3⟩, h4⟩ := hc
      rcases hx with hx | hx
      · rcases (hL x).1 hx with (e | e) | e
        · exact h2 e
        · exact h3 e
        · exact h4 (Gp.mem_oth.1 e).1
      · omega
  · rw [if_neg hx, if_pos ?_]
    · refine ⟨rfl, fun y => ?_⟩
      simp only [List.mem_append, List.mem_singleton, hL y, or_assoc]
    · have h1 : x ∉ L := fun e => hx (.inl e)
      have h2 : 0 ≤ x ∧ x ≤ (t.many : Int) - 1 := Classical.byContradiction (fun e => hx (.inr e))
      have h3 : x ≠ (t.me : Int) := fun e => h1 ((hL x).2 (.inl (.inl e)))
      have h4 : x ≠ but := fun e => h1 ((hL x).2 (.inl (.inr e)))
      have hc : Gp.can t but x = true := by
        simp only [Gp.can, Bool.and_eq_true, decide_eq_true_eq, Bool.not_eq_true', decide_eq_false_iff_not]
        exact ⟨h2.1, by omega, h3, h4⟩
      simp only [hc, Bool.true_and, Bool.not_eq_true', decide_eq_false_iff_not]
      exact fun e => h1 ((hL x).2 (.inr (Gp.mem_oth.2 ⟨e, hc⟩)))
/-- What two orders end in is gone on with once. -/
theorem cont_tree {G : Prop} {K D : Nat → Nat → World → Prop} (hmain : (∀ m p V, D m p V → K m p V) → G) (hcont : ∀ m p V, D m p V → K m p V) : G := hmain hcont
set_option maxRecDepth 100000 in
set_option maxHeartbeats 4000000 in
theorem gothers_any {w : World} {F : Nat → Prop} {g d m0 : Nat} {t : Gp.G} (h : GsT w F g d m0 t) (A : Option Addr) (n c : Nat) (l : List Int) (but : Int) (hS : Src w A (ivs l)) (hl : l.length = n) (hn : n ≤ 1000) (hnc : n ≤ c) (hcx : c ≤ 9223372036854775807) (hA : A = none → c = 0) :
    Calls Try.prog 20 #[.pointer (some ⟨g, 0, none⟩), .slice A n c, .int .i64 but] w fun e w' => ∃ (A' : Option Addr) (c' : Nat), e = .returned (.slice A' (Gp.oth t l but).length c') ∧ w'.ownsRow w.heap.size 3 1 (.slice A' (Gp.oth t l but).length c') (Gp.oth t l but).length (ivs (Gp.oth t l but)) ∧ Keeps (fun _ => False) w w' := by
  obtain ⟨mi, hmi⟩ : ∃ x, (t.me : Int) = x := ⟨_, rfl⟩
  obtain ⟨bg, hbg⟩ : ∃ x, w.heap.size = x := ⟨_, rfl⟩
  obtain ⟨W1, hW1⟩ : ∃ V, w.alloc (.cells #[.pointer (some ⟨g, 0, none⟩)] 25) = V := ⟨_, rfl⟩
  have k1 : Keeps (fun _ => False) w W1 := by rw [← hW1]; exact (Keeps.refl _ _).alloc _
  have rg : Row W1 bg 25 [.pointer (some ⟨g, 0, none⟩)] := by rw [← hW1, ← hbg]; exact heap_alloc_new w _
  have h1 := h.later k1
  have HBG : Hid (∀ V, Later W1 V → V.cell? ⟨bg, 0, none⟩ = some (.pointer (some ⟨g, 0, none⟩))) := Lib.hid (fun V hV => (rg.keeps hV.out id).cell 0)
  have HME : Hid (∀ V, Later W1 V → V.cell? ⟨g, 0, none⟩ = some (.int .i64 mi)) := Lib.hid (fun V hV => by rw [← hmi]; exact (h1.later hV.out).me)
  have HL1 : Hid (∀ y, y ∈ ([] ++ [mi] ++ [but] : List Int) ↔ y = mi ∨ y = but) := Lib.hid (fun y => by simp)
  have HL2 : Hid (∀ y, y ∈ ([] ++ [but] ++ [mi] : List Int) ↔ y = mi ∨ y = but) := Lib.hid (fun y => by simp [or_comm])
  have H1 := Lib.hid h1
  have RG := Lib.hid rg
  have K1 := Lib.hid (And.intro k1 (And.intro hbg (And.intro h.row.lt (show W1.heap.size = bg + 1 by rw [← hW1, ← hbg]; simp))))
  have HS := Lib.hid hS
  have HMI := Lib.hid hmi
  have HLN := Lib.hid hl
  clear h h1 k1 rg hS hmi hl
  go_enter Try.func20, Try.ntmps20
  go_wp2_with fail
  apply cont_tree (D := fun m p V => Later W1 V ∧ ∃ L, (∀ y, y ∈ L ↔ y = mi ∨ y = but) ∧ InsE W1 69 m p L V)
  case hmain =>
    intro HH
    refine wp_region_tree 6 [0, 6, 9, 11, 12] [1, 2, 3, 4, 5, 7, 8] (Later W1) (InsF W1 69 none none) (by kernel_rfl) (by kernel_rfl) (Lasts.later W1) InsF.lasts ⟨(Keeps.refl _ _).drew⟩ ⟨fun x h => (by cases h), fun p h => (by cases h)⟩ ?_
    refine T_cell (get_op rfl) (by rfl) (by rfl) 25 (.tmp 3) (by rfl) ⟨bg, 0, none⟩ (by rfl) (.pointer (some ⟨g, 0, none⟩)) _ (fun V hV => HBG.out V hV) Try.underlying25 rfl ?_
    simp only [Act.put, List.setIfInBounds_toArray, List.set_cons_zero, List.set_cons_succ]
    refine T_value (get_op rfl) (by rfl) (by rfl) (.pointer (some ⟨g, 0, none⟩)) (fun _ _ => by go_simp) ?_
    simp only [Act.put, List.setIfInBounds_toArray, List.set_cons_zero, List.set_cons_succ]
    refine T_value (get_op rfl) (by rfl) (by rfl) (.pointer (some ⟨g, 0, none⟩)) (fun _ _ => by go_simp) ?_
    simp only [Act.put, List.setIfInBounds_toArray, List.set_cons_zero, List.set_cons_succ]
    refine T_cell (get_op rfl) (by rfl) (by rfl) 3 (.tmp 15) (by rfl) ⟨g, 0, none⟩ (by rfl) (.int .i64 mi) _ (fun V hV => HME.out V hV) Try.underlying3 rfl ?_
    simp only [Act.put, List.setIfInBounds_toArray, List.set_cons_zero, List.set_cons_succ]
    refine T_value (get_op rfl) (by rfl) (by rfl) (.agg #[]) (fun _ _ => by go_simp) ?_
    simp only [Act.put, List.setIfInBounds_toArray, List.set_cons_zero, List.set_cons_succ]
    refine T_value (get_op rfl) (by rfl) (by rfl) (.int .i64 but) (fun _ _ => by go_simp) ?_
    simp only [Act.put, List.setIfInBounds_toArray, List.set_cons_zero, List.set_cons_succ]
    refine T_value (get_op rfl) (by rfl) (by rfl) (.agg #[]) (fun _ _ => by go_simp) ?_
    simp only [Act.put, List.setIfInBounds_toArray, List.set_cons_zero, List.set_cons_succ]
    refine T_nil ?_
    intro _ _ _
    refine tree_two 0 11 (by kernel_rfl) ?_ ?_
    · refine S_make (get_op rfl) (by rfl) (by rfl) 69 none (by rfl) (fun V hV => hV) ?_
      intro m
      simp only [Act.put, List.setIfInBounds_toArray, List.set_cons_zero, List.set_cons_succ]
      refine tree_three 6 9 11 (by kernel_rfl) ?_ ?_ ?_
      · refine S_insert (get_op rfl) (by rfl) (by rfl) 69 3 63 _ _ _ m ([] : List Int) mi none (by rfl) (by rfl) Try.underlying69 Try.underlying3 (by rfl) (by rfl) (by rfl) (fun V hV => hV) ?_
        refine tree_two 9 11 (by kernel_rfl) ?_ ?_
        · refine S_insert (get_op rfl) (by rfl) (by rfl) 69 3 63 _ _ _ m ([] ++ [mi] : List Int) but none (by rfl) (by rfl) Try.underlying69 Try.underlying3 (by rfl) (by rfl) (by rfl) (fun V hV => hV) ?_
          refine tree_two 10 11 (by kernel_rfl) ?_ ?_
          · refine S_value (get_op rfl) (by rfl) (by rfl) (.map (some m)) (fun _ _ => by go_simp) ?_
            simp only [Act.put, List.setIfInBounds_toArray, List.set_cons_zero, List.set_cons_succ]
            refine tree_one 11 (by kernel_rfl) ?_
            · refine S_alloc (get_op rfl) (by rfl) (by rfl) (some (m, ([] ++ [mi] ++ [but] : List Int))) (by rfl) (fun V => alloc_M V) (fun V hV => hV) ?_
              intro p
              simp only [Act.put, List.setIfInBounds_toArray, List.set_cons_zero, List.set_cons_succ]
              refine tree_one 12 (by kernel_rfl) ?_
              · refine S_keep (get_op rfl) (by rfl) (by rfl) _ _ m p ([] ++ [mi] ++ [but] : List Int) (by rfl) (by rfl) info_M (by rfl) (by rfl) (fun V hV => hV) ?_
                refine tree_end (by kernel_rfl) ?_
                intro V hV hf
                exact HH _ _ _ ⟨hV, _, HL1.out, hf⟩
          · refine S_alloc (get_op rfl) (by rfl) (by rfl) (some (m, ([] ++ [mi] ++ [but] : List Int))) (by rfl) (fun V => alloc_M V) (fun V hV => hV) ?_
            intro p
            simp only [Act.put, List.setIfInBounds_toArray, List.set_cons_zero, List.set_cons_succ]
            refine tree_one 10 (by kernel_rfl) ?_
            · refine S_value (get_op rfl) (by rfl) (by rfl) (.map (some m)) (fun _ _ => by go_simp) ?_
              simp only [Act.put, List.setIfInBounds_toArray, List.set_cons_zero, List.set_cons_succ]
              refine tree_one 12 (by kernel_rfl) ?_
              · refine S_keep (get_op rfl) (by rfl) (by rfl) _ _ m p ([] ++ [mi] ++ [but] : List Int) (by rfl) (by rfl) info_M (by rfl) (by rfl) (fun V hV => hV) ?_
                refine tree_end (by kernel_rfl) ?_
                intro V hV hf
                exact HH _ _ _ ⟨hV, _, HL1.out, hf⟩
        · refine S_alloc (get_op rfl) (by rfl) (by rfl) (some (m, ([] ++ [mi] : List Int))) (by rfl) (fun V => alloc_M V) (fun V hV => hV) ?_
          intro p
          simp only [Act.put, List.setIfInBounds_toArray, List.set_cons_zero, List.set_cons_succ]
          refine tree_one 9 (by kernel_rfl) ?_
          · refine S_insert (get_op rfl) (by rfl) (by rfl) 69 3 63 _ _ _ m ([] ++ [mi] : List Int) but (some p) (by rfl) (by rfl) Try.underlying69 Try.underlying3 (by rfl) (by rfl) (by rfl) (fun V hV => hV) ?_
            refine tree_one 10 (by kernel_rfl) ?_
            · refine S_value (get_op rfl) (by rfl) (by rfl) (.map (some m)) (fun _ _ => by go_simp) ?_
              simp only [Act.put, List.setIfInBounds_toArray, List.set_cons_zero, List.set_cons_succ]
              refine tree_one 12 (by kernel_rfl) ?_
              · refine S_keep (get_op rfl) (by rfl) (by rfl) _ _ m p ([] ++ [mi] ++ [but] : List Int) (by rfl) (by rfl) info_M (by rfl) (by rfl) (fun V hV => hV) ?_
                refine tree_end (by kernel_rfl) ?_
                intro V hV hf
                exact HH _ _ _ ⟨hV, _, HL1.out, hf⟩
      · refine S_insert (get_op rfl) (by rfl) (by rfl) 69 3 63 _ _ _ m ([] : List Int) but none (by rfl) (by rfl) Try.underlying69 Try.underlying3 (by rfl) (by rfl) (by rfl) (fun V hV => hV) ?_
        refine tree_two 6 11 (by kernel_rfl) ?_ ?_
        · refine S_insert (get_op rfl) (by rfl) (by rfl) 69 3 63 _ _ _ m ([] ++ [but] : List Int) mi none (by rfl) (by rfl) Try.underlying69 Try.underlying3 (by rfl) (by rfl) (by rfl) (fun V hV => hV) ?_
          refine tree_two 10 11 (by kernel_rfl) ?_ ?_
          · refine S_value (get_op rfl) (by rfl) (by rfl) (.map (some m)) (fun _ _ => by go_simp) ?_
            simp only [Act.put, List.setIfInBounds_toArray, List.set_cons_zero, List.set_cons_succ]
            refine tree_one 11 (by kernel_rfl) ?_
            · refine S_alloc (get_op rfl) (by rfl) (by rfl) (some (m, ([] ++ [but] ++ [mi] : List Int))) (by rfl) (fun V => alloc_M V) (fun V hV => hV) ?_
              intro p
              simp only [Act.put, List.setIfInBounds_toArray, List.set_cons_zero, List.set_cons_succ]
              refine tree_one 12 (by kernel_rfl) ?_
              · refine S_keep (get_op rfl) (by rfl) (by rfl) _ _ m p ([] ++ [but] ++ [mi] : List Int) (by rfl) (by rfl) info_M (by rfl) (by rfl) (fun V hV => hV) ?_
                refine tree_end (by kernel_rfl) ?_
                intro V hV hf
                exact HH _ _ _ ⟨hV, _, HL2.out, hf⟩
          · refine S_alloc (get_op rfl) (by rfl) (by rfl) (some (m, ([] ++ [but] ++ [mi] : List Int))) (by rfl) (fun V => alloc_M V) (fun V hV => hV) ?_
            intro p
            simp only [Act.put, List.setIfInBounds_toArray, List.set_cons_zero, List.set_cons_succ]
            refine tree_one 10 (by kernel_rfl) ?_
            · refine S_value (get_op rfl) (by rfl) (by rfl) (.map (some m)) (fun _ _ => by go_simp) ?_
              simp only [Act.put, List.setIfInBounds_toArray, List.set_cons_zero, List.set_cons_succ]
              refine tree_one 12 (by kernel_rfl) ?_
              · refine S_keep (get_op rfl) (by rfl) (by rfl) _ _ m p ([] ++ [but] ++ [mi] : List Int) (by rfl) (by rfl) info_M (by rfl) (by rfl) (fun V hV => hV) ?_
                refine tree_end (by kernel_rfl) ?_
                intro V hV hf
                exact HH _ _ _ ⟨hV, _, HL2.out, hf⟩
        · refine S_alloc (get_op rfl) (by rfl) (by rfl) (some (m, ([] ++ [but] : List Int))) (by rfl) (fun V => alloc_M V) (fun V hV => hV) ?_
          intro p
          simp only [Act.put, List.setIfInBounds_toArray, List.set_cons_zero, List.set_cons_succ]
          refine tree_one 6 (by kernel_rfl) ?_
          · refine S_insert (get_op rfl) (by rfl) (by rfl) 69 3 63 _ _ _ m ([] ++ [but] : List Int) mi (some p) (by rfl) (by rfl) Try.underlying69 Try.underlying3 (by rfl) (by rfl) (by rfl) (fun V hV => hV) ?_
            refine tree_one 10 (by kernel_rfl) ?_
            · refine S_value (get_op rfl) (by rfl) (by rfl) (.map (some m)) (fun _ _ => by go_simp) ?_
              simp only [Act.put, List.setIfInBounds_toArray, List.set_cons_zero, List.set_cons_succ]
              refine tree_one 12 (by kernel_rfl) ?_
              · refine S_keep (get_op rfl) (by rfl) (by rfl) _ _ m p ([] ++ [but] ++ [mi] : List Int) (by rfl) (by rfl) info_M (by rfl) (by rfl) (fun V hV => hV) ?_
                refine tree_end (by kernel_rfl) ?_
                intro V hV hf
                exact HH _ _ _ ⟨hV, _, HL2.out, hf⟩
      · refine S_alloc (get_op rfl) (by rfl) (by rfl) (some (m, ([] : List Int))) (by rfl) (fun V => alloc_M V) (fun V hV => hV) ?_
        intro p
        simp only [Act.put, List.setIfInBounds_toArray, List.set_cons_zero, List.set_cons_succ]
        refine tree_two 6 9 (by kernel_rfl) ?_ ?_
        · refine S_insert (get_op rfl) (by rfl) (by rfl) 69 3 63 _ _ _ m ([] : List Int) mi (some p) (by rfl) (by rfl) Try.underlying69 Try.underlying3 (by rfl) (by rfl) (by rfl) (fun V hV => hV) ?_
          refine tree_one 9 (by kernel_rfl) ?_
          · refine S_insert (get_op rfl) (by rfl) (by rfl) 69 3 63 _ _ _ m ([] ++ [mi] : List Int) but (some p) (by rfl) (by rfl) Try.underlying69 Try.underlying3 (by rfl) (by rfl) (by rfl) (fun V hV => hV) ?_
            refine tree_one 10 (by kernel_rfl) ?_
            · refine S_value (get_op rfl) (by rfl) (by rfl) (.map (some m)) (fun _ _ => by go_simp) ?_
              simp only [Act.put, List.setIfInBounds_toArray, List.set_cons_zero, List.set_cons_succ]
              refine tree_one 12 (by kernel_rfl) ?_
              · refine S_keep (get_op rfl) (by rfl) (by rfl) _ _ m p ([] ++ [mi] ++ [but] : List Int) (by rfl) (by rfl) info_M (by rfl) (by rfl) (fun V hV => hV) ?_
                refine tree_end (by kernel_rfl) ?_
                intro V hV hf
                exact HH _ _ _ ⟨hV, _, HL1.out, hf⟩
        · refine S_insert (get_op rfl) (by rfl) (by rfl) 69 3 63 _ _ _ m ([] : List Int) but (some p) (by rfl) (by rfl) Try.underlying69 Try.underlying3 (by rfl) (by rfl) (by rfl) (fun V hV => hV) ?_
          refine tree_one 6 (by kernel_rfl) ?_
          · refine S_insert (get_op rfl) (by rfl) (by rfl) 69 3 63 _ _ _ m ([] ++ [but] : List Int) mi (some p) (by rfl) (by rfl) Try.underlying69 Try.underlying3 (by rfl) (by rfl) (by rfl) (fun V hV => hV) ?_
            refine tree_one 10 (by kernel_rfl) ?_
            · refine S_value (get_op rfl) (by rfl) (by rfl) (.map (some m)) (fun _ _ => by go_simp) ?_
              simp only [Act.put, List.setIfInBounds_toArray, List.set_cons_zero, List.set_cons_succ]
              refine tree_one 12 (by kernel_rfl) ?_
              · refine S_keep (get_op rfl) (by rfl) (by rfl) _ _ m p ([] ++ [but] ++ [mi] : List Int) (by rfl) (by rfl) info_M (by rfl) (by rfl) (fun V hV => hV) ?_
                refine tree_end (by kernel_rfl) ?_
                intro V hV hf
                exact HH _ _ _ ⟨hV, _, HL2.out, hf⟩
    · refine S_alloc (get_op rfl) (by rfl) (by rfl) none (by rfl) (fun V => alloc_M V) (fun V hV => hV) ?_
      intro p
      simp only [Act.put, List.setIfInBounds_toArray, List.set_cons_zero, List.set_cons_succ]
      refine tree_one 0 (by kernel_rfl) ?_
      · refine S_make (get_op rfl) (by rfl) (by rfl) 69 (some p) (by rfl) (fun V hV => hV) ?_
        intro m
        simp only [Act.put, List.setIfInBounds_toArray, List.set_cons_zero, List.set_cons_succ]
        refine tree_two 6 9 (by kernel_rfl) ?_ ?_
        · refine S_insert (get_op rfl) (by rfl) (by rfl) 69 3 63 _ _ _ m ([] : List Int) mi (some p) (by rfl) (by rfl) Try.underlying69 Try.underlying3 (by rfl) (by rfl) (by rfl) (fun V hV => hV) ?_
          refine tree_one 9 (by kernel_rfl) ?_
          · refine S_insert (get_op rfl) (by rfl) (by rfl) 69 3 63 _ _ _ m ([] ++ [mi] : List Int) but (some p) (by rfl) (by rfl) Try.underlying69 Try.underlying3 (by rfl) (by rfl) (by rfl) (fun V hV => hV) ?_
            refine tree_one 10 (by kernel_rfl) ?_
            · refine S_value (get_op rfl) (by rfl) (by rfl) (.map (some m)) (fun _ _ => by go_simp) ?_
              simp only [Act.put, List.setIfInBounds_toArray, List.set_cons_zero, List.set_cons_succ]
              refine tree_one 12 (by kernel_rfl) ?_
              · refine S_keep (get_op rfl) (by rfl) (by rfl) _ _ m p ([] ++ [mi] ++ [but] : List Int) (by rfl) (by rfl) info_M (by rfl) (by rfl) (fun V hV => hV) ?_
                refine tree_end (by kernel_rfl) ?_
                intro V hV hf
                exact HH _ _ _ ⟨hV, _, HL1.out, hf⟩
        · refine S_insert (get_op rfl) (by rfl) (by rfl) 69 3 63 _ _ _ m ([] : List Int) but (some p) (by rfl) (by rfl) Try.underlying69 Try.underlying3 (by rfl) (by rfl) (by rfl) (fun V hV => hV) ?_
          refine tree_one 6 (by kernel_rfl) ?_
          · refine S_insert (get_op rfl) (by rfl) (by rfl) 69 3 63 _ _ _ m ([] ++ [but] : List Int) mi (some p) (by rfl) (by rfl) Try.underlying69 Try.underlying3 (by rfl) (by rfl) (by rfl) (fun V hV => hV) ?_
            refine tree_one 10 (by kernel_rfl) ?_
            · refine S_value (get_op rfl) (by rfl) (by rfl) (.map (some m)) (fun _ _ => by go_simp) ?_
              simp only [Act.put, List.setIfInBounds_toArray, List.set_cons_zero, List.set_cons_succ]
              refine tree_one 12 (by kernel_rfl) ?_
              · refine S_keep (get_op rfl) (by rfl) (by rfl) _ _ m p ([] ++ [but] ++ [mi] : List Int) (by rfl) (by rfl) info_M (by rfl) (by rfl) (fun V hV => hV) ?_
                refine tree_end (by kernel_rfl) ?_
                intro V hV hf
                exact HH _ _ _ ⟨hV, _, HL2.out, hf⟩
  case hcont =>
    intro m p V hD
    obtain ⟨hv, L, hL, hm1, hp1, hs, hp⟩ := hD
    obtain ⟨bp, hbp⟩ : ∃ x, V.heap.size = x := ⟨_, rfl⟩
    obtain ⟨W2, hW2⟩ : ∃ X, V.alloc (.cells #[.slice none 0 0] 34) = X := ⟨_, rfl⟩
    have k2 : Keeps (fun _ => False) V W2 := by rw [← hW2]; exact (Keeps.refl _ _).alloc _
    have hW2s : W2.heap.size = bp + 1 := by rw [← hW2, ← hbp]; simp
    have rp : Row W2 bp 34 [.slice none 0 0] := by rw [← hW2, ← hbp]; exact heap_alloc_new V _
    have h2 := (H1.out.later hv.out).later k2
    have hgt : Gth w p bg bp g m (bp + 1) t.many L [] none 0 0 W2 := by
      have hmlt := IMap.lt hs
      have hplt := (Array.getElem?_eq_some_iff.1 hp).1
      have hk := K1.out
      refine ⟨(Row.keeps hp k2 id), (RG.out.keeps hv.out id).keeps k2 id, rp, hs.keeps k2 id, World.ownsRow_nil _ _ _ _, h2.many, ⟨hk.2.2.1, by omega, by omega, by have := hv.out.size; omega, by omega⟩, ⟨by omega, by have := hv.out.size; omega, by omega, by omega, by omega⟩, ⟨by omega, by have := hv.out.size; omega⟩, (hk.1.trans hv.out).trans k2⟩
    have HST : Hid (∃ (L' o' : List Int) (A' : Option Addr) (n' c' : Nat), o' = Gp.oth t (l.take 0) but ∧ (∀ y, y ∈ L' ↔ (y = (t.me : Int) ∨ y = but) ∨ y ∈ o') ∧ Gth w p bg bp g m (bp + 1) t.many L' o' A' n' c' W2) :=
      Lib.hid ⟨L, [], none, 0, 0, rfl, fun y => by rw [hL y, ← HMI.out]; simp, hgt⟩
    have HB := Lib.hid (show w.heap.size ≤ bp + 1 by have := hgt.low; omega)
    have HMN := Lib.hid H1.out.ok.inn
    clear hv hL hm1 hp1 hs hp k2 hW2s rp h2 hgt HBG HME HL1 HL2 H1 RG K1
    go_wp2_with fail
    go_loopw [24] (fun iv wr => ∃ (k : Nat), k ≤ n ∧ iv = .int .i64 (k : Int) ∧ Hid (∃ (L' o' : List Int) (A' : Option Addr) (n' c' : Nat), o' = Gp.oth t (l.take k) but ∧ (∀ y, y ∈ L' ↔ (y = (t.me : Int) ∨ y = but) ∨ y ∈ o') ∧ Gth w p bg bp g m (bp + 1) t.many L' o' A' n' c' wr)) (fun iv _ => n - (intOf iv).toNat)
    case atStart => exact ⟨0, by omega, rfl, HST⟩
    case round =>
      obtain ⟨k, hk, rfl, hst⟩ := hrel
      obtain ⟨L', o', A', n', c', ho, hL, hg⟩ := hst.out
      by_cases hlt : k < n
      · have hii : (k : Int) < (n : Int) := by omega
        obtain ⟨x, hx⟩ : ∃ x, l[k]? = some x := ⟨_, List.getElem?_eq_getElem (by have := HLN.out; omega)⟩
        obtain ⟨ad, rfl, hcx⟩ := HS.out k (.int .i64 x) (by rw [ivs_get, hx]; rfl)
        have hce : wr.cell? (ad.add k) = some (.int .i64 x) := (hg.keeps.cell (World.block_lt_of_cell? _ _ hcx) id).trans hcx
        have hnl : n' ≤ 1000 := by
          have h1 := hg.row.1
          rw [ivs_length, ho] at h1
          have h2 := Gp.oth_le t (l.take k) but
          rw [List.length_take] at h2
          omega
        have HC := Lib.hid (gather_any x hg hnl (by have := HMN.out.1; omega))
        have htk : l.take (k + 1) = l.take k ++ [x] := by
          obtain ⟨h1, h2⟩ := List.getElem?_eq_some_iff.1 hx
          rw [List.take_succ_eq_append_getElem h1, h2]
        have hgo := gst_oth (t := t) (but := but) (L := L') (pre := l.take k) x (by rw [← ho]; exact hL)
        rw [← ho, ← htk] at hgo
        have HGO := Lib.hid hgo
        clear hst ho hL hg hx hcx hnl htk hgo
        go_wp2_with fail
        refine HC.out.mono ?_
        rintro e w5 ⟨rfl, A5, n5, c5, hg5⟩
        have H5 : Hid (∃ (L' o' : List Int) (A' : Option Addr) (n' c' : Nat), o' = Gp.oth t (l.take (k + 1)) but ∧ (∀ y, y ∈ L' ↔ (y = (t.me : Int) ∨ y = but) ∨ y ∈ o') ∧ Gth w p bg bp g m (bp + 1) t.many L' o' A' n' c' w5) :=
          Lib.hid ⟨_, _, A5, n5, c5, HGO.out.1, HGO.out.2, hg5⟩
        clear hg5
        go_wp2
        go_roundw
        case rel => exact ⟨k + 1, by omega, by go_num, H5⟩
        case measure => simp [intOf]; omega
      · obtain rfl : k = n := by omega
        rw [List.take_of_length_le (by have := HLN.out; omega)] at ho
        have hnn : n' = (Gp.oth t l but).length := by have h1 := hg.row.1; rw [ivs_length, ho] at h1; omega
        subst hnn
        have hcp : wr.cell? ⟨bp, 0, none⟩ = some (.slice A' (Gp.oth t l but).length c') := hg.vp.cell 0
        have FIN : Hid (wr.ownsRow w.heap.size 3 1 (.slice A' (Gp.oth t l but).length c') (Gp.oth t l but).length (ivs (Gp.oth t l but)) ∧ Keeps (fun _ => False) w wr) := Lib.hid ⟨own_base (by rw [← ho]; have h := hg.row; rwa [← ho] at h) HB.out, hg.keeps⟩
        clear hst ho hL hg
        go_wp2
        go_ret
        exact ⟨A', c', rfl, FIN.out⟩
end Go.Proofs.Ytmhbfchhooggjaa
