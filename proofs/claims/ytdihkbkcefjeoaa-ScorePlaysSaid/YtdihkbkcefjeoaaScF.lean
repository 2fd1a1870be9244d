/-
  Who isn't kept away; time goes by.
-/
import Derived.Test.YtdihkbkcefjeoaaScE
namespace Go.Proofs.Ytdihkbkcefjeoaa
open Go.RowKit Go.BigFrame
set_option linter.unusedVariables false
set_option linter.unusedSimpArgs false

theorem wpList_buildSlice_run13 {P : Program} {ops : Array Oper} {rest : List Oper} {o : Oper} {a : Act} {w w' : World} {Q : Exit → Act → World → Prop} (hgd : o.guard = none) (t : TypeId) (n m : Nat) (x : Operand) (ho : o.op = .buildSlice t n #[(m, x)])
    (u v : Value) (hx : a.eval x = u) (hrun : (Instr.buildSlice t n #[(m, u)]).run P w = .ok v w') (h : wpList P ops Q rest (a.put o.dst v) w') : wpList P ops Q (o :: rest) a w := by
  refine wpList_plain hgd fun _ hK => ?_
  unfold Oper.wp execOp
  simp only [ho, Sem.run_bind, Sem.run_pure, Result.andThen_ok, List.map_toArray, List.map_cons, List.map_nil, hx, hrun]
  exact hK _ _ h
theorem build_int (k : Int) (V : World) : (Instr.buildSlice 43 1 #[(0, .int .i64 k)]).run Try.prog V = .ok (.slice (some ⟨V.heap.size, 0, none⟩) 1 1) (V.alloc (.cells #[.int .i64 k] 3)) := by
  kernel_rfl
theorem info_int : (Try.prog.info? 3).map (fun i => (i.zero, i.size, i.bytes)) = some (some (.int .i64 0), 1, 8) := by kernel_rfl
theorem info_in : ∃ (ih : TypeInfo) (zh : Value), Try.prog.info? 3 = some ih ∧ ih.zero = some zh ∧ ih.size = 1 ∧ ih.bytes = 8 ∧ zh.cells.size = 1 := by
  have h := info_int
  obtain ⟨ih, hi, h⟩ := Option.map_eq_some_iff.1 h
  simp only [Prod.mk.injEq] at h
  exact ⟨ih, _, hi, h.1, h.2.1, h.2.2, rfl⟩
theorem nvs_snoc (l : List Nat) (k : Nat) : nvs l ++ [Value.int .i64 (k : Int)] = nvs (l ++ [k]) := by simp [nvs]
theorem nvs_one (l : List Nat) : ∀ u ∈ nvs l, u.oneCell' = true := by
  intro u hu
  obtain ⟨c, _, rfl⟩ := List.mem_map.1 hu
  rfl
theorem nvs_range (n i : Nat) (h : i < n) : (nvs (List.range n))[i]? = some (.int .i64 (i : Int)) := by
  unfold nvs
  rw [List.getElem?_map, List.getElem?_range h]
  rfl
namespace Sc
theorem opens_succ (ps : List (Int × Int)) (i : Nat) : opens ps (i + 1) = opens ps i ++ (if (ps.getD i (0, 0)).2 ≤ 0 then [i] else []) := by
  unfold opens
  rw [List.range_succ, List.filter_append]
  congr 1
  simp only [List.filter_cons, List.filter_nil, decide_eq_true_eq]
theorem ins_succ (ps : List (Int × Int)) (i : Nat) : ins ps (i + 1) = ins ps i ++ (if (ps.getD i (0, 0)).2 = 1 then [i] else []) := by
  unfold ins
  rw [List.range_succ, List.filter_append]
  congr 1
  simp only [List.filter_cons, List.filter_nil, beq_iff_eq]
theorem opens_le (ps : List (Int × Int)) (i : Nat) : (opens ps i).length ≤ i := by
  have := List.length_filter_le (fun k => decide ((ps.getD k (0, 0)).2 ≤ 0)) (List.range i)
  rwa [List.length_range] at this
theorem ins_le (ps : List (Int × Int)) (i : Nat) : (ins ps i).length ≤ i := by
  have := List.length_filter_le (fun k => (ps.getD k (0, 0)).2 == 1) (List.range i)
  rwa [List.length_range] at this
theorem get_D {s : Tb} {i : Nat} (h : i < s.ps.length) : get s (i : Int) = s.ps.getD i (0, 0) := by
  rw [get_nat (List.getElem?_eq_getElem h), List.getD_eq_getElem?_getD, List.getElem?_eq_getElem h]
  rfl
/-- The first ones have had their tick. -/
def tks (ps : List (Int × Int)) (i : Nat) : List (Int × Int) := (ps.take i).map tk ++ ps.drop i
theorem tks_zero (ps : List (Int × Int)) : tks ps 0 = ps := rfl
theorem tks_all (ps : List (Int × Int)) : tks ps ps.length = ps.map tk := by unfold tks; simp
theorem tks_length (ps : List (Int × Int)) (i : Nat) : (tks ps i).length = ps.length := by unfold tks; simp; omega
theorem tks_at (ps : List (Int × Int)) (i : Nat) (p : Int × Int) (h : ps[i]? = some p) : (tks ps i)[i]? = some p := by
  have hi := (List.getElem?_eq_some_iff.1 h).1
  unfold tks
  rw [List.getElem?_append_right (by simp; omega)]
  simp [Nat.min_eq_left (Nat.le_of_lt hi), h]
theorem tks_succ (ps : List (Int × Int)) (i : Nat) (p : Int × Int) (h : ps[i]? = some p) : tks ps (i + 1) = (tks ps i).set i (tk p) := by
  obtain ⟨hi, hp⟩ := List.getElem?_eq_some_iff.1 h
  have hd : ps.drop i = p :: ps.drop (i + 1) := by rw [List.drop_eq_getElem_cons hi, hp]
  have hl : ((ps.take i).map tk).length = i := by simp; omega
  unfold tks
  rw [hd, List.take_succ_eq_append_getElem hi, hp, List.map_append, List.append_assoc]
  have := List.set_append_right (s := (ps.take i).map tk) (t := p :: ps.drop (i + 1)) (x := tk p) (i := i) (by omega)
  rw [this, hl]
  simp
theorem tks_mem {ps : List (Int × Int)} {i : Nat} {q : Int × Int} (h : q ∈ tks ps i) : (∃ p ∈ ps, q = tk p) ∨ q ∈ ps := by
  unfold tks at h
  rcases List.mem_append.1 h with h | h
  · obtain ⟨p, hp, rfl⟩ := List.mem_map.1 h
    exact .inl ⟨p, List.mem_of_mem_take hp, rfl⟩
  · exact .inr (List.mem_of_mem_drop h)
theorem tks_ok {s : Tb} (h : Ok s) (i : Nat) : Ok { s with ps := tks s.ps i } := by
  refine ⟨by show 1 ≤ (tks s.ps i).length ∧ (tks s.ps i).length ≤ 64; rw [tks_length]; exact h.many, h.limit, h.hold, fun q hq => ?_, fun q hq => ?_⟩
  · rcases tks_mem hq with ⟨p, hp, rfl⟩ | hq
    · exact (tk_ok p _ _ (h.pts p hp) (h.left p hp)).1
    · exact h.pts q hq
  · rcases tks_mem hq with ⟨p, hp, rfl⟩ | hq
    · exact (tk_ok p _ _ (h.pts p hp) (h.left p hp)).2
    · exact h.left q hq
end Sc
set_option maxRecDepth 100000 in
set_option maxHeartbeats 2000000 in
theorem open_tab (w : World) (g b : Nat) (s : Sc.Tb) (h : TabAt w g b s) : Calls Try.prog 17 #[.pointer (some ⟨g, 0, none⟩)] w fun e w' =>
    ∃ A m c, e = .returned (.slice A m c) ∧ m = (Sc.opens s.ps s.ps.length).length ∧ w'.ownsRow w.heap.size 3 1 (.slice A m c) m (nvs (Sc.opens s.ps s.ps.length)) ∧ Keeps (fun _ => False) w w' := by
  have HALL := Lib.hid (all_any w g b s h)
  have HT := Lib.hid h
  obtain ⟨n, hn⟩ : ∃ n, s.ps.length = n := ⟨_, rfl⟩
  have hn64 := h.ok.many.2
  rw [hn] at HALL hn64 ⊢
  have HN := Lib.hid (And.intro hn hn64)
  obtain ⟨ih, zh, hih, hzh, hsh, hbh, hzsh⟩ := info_in
  have HII := Lib.hid (And.intro hih (And.intro hzh (And.intro hsh (And.intro hbh hzsh))))
  clear h hn hn64 hih hzh hsh hbh hzsh
  go_enter Try.func17, Try.ntmps17
  go_wp2_with fail
  refine HALL.out.mono ?_
  rintro e w1 ⟨A, c, rfl, hrow, k1⟩
  have HR := Lib.hid hrow
  have K1 := Lib.hid k1
  have HW1 := Lib.hid k1.size
  clear hrow k1
  go_wp2_with fail
  obtain ⟨B, hB⟩ : ∃ x, w1.heap.size = x := ⟨_, rfl⟩
  have HB := Lib.hid hB
  clear hB
  go_loopw [3, 5, 9] (fun lv _ iv wr => ∃ (i m : Nat) (A2 : Option Addr) (c2 : Nat), i ≤ n ∧ lv = .slice A2 m c2 ∧ iv = .int .i64 (i : Int) ∧ Hid (m = (Sc.opens s.ps i).length) ∧ Hid (wr.ownsRow B 3 1 (.slice A2 m c2) m (nvs (Sc.opens s.ps i))) ∧ Hid (Keeps (fun _ => False) w1 wr)) (fun _ _ iv _ => n - (intOf iv).toNat)
  case atStart => exact ⟨0, 0, none, 0, by omega, rfl, rfl, Lib.hid rfl, Lib.hid (World.ownsRow_nil _ _ _ _), Lib.hid (Keeps.refl _ _)⟩
  case round =>
    obtain ⟨i, m, A2, c2, hi, rfl, rfl, HM, HO, HK⟩ := hrel
    by_cases hlt : i < n
    · have hii : (i : Int) < (n : Int) := by omega
      obtain ⟨ad, rfl, hc⟩ := (Src.of_own (HK.out.owns HR.out (fun _ _ => id))) i (.int .i64 (i : Int)) (nvs_range n i hlt)
      have t2 := HT.out.later (K1.out.trans HK.out)
      have haw := taway_any wr g b s (i : Int) t2
      have hgd : Sc.get s (i : Int) = s.ps.getD i (0, 0) := Sc.get_D (by have := HN.out.1; omega)
      rw [hgd] at haw
      have hos := Sc.opens_succ s.ps i
      have h64 : n ≤ 64 := HN.out.2
      have hmi := Sc.opens_le s.ps i
      rw [← HM.out] at hmi
      obtain ⟨y, hy⟩ : ∃ y, (s.ps.getD i (0, 0)).2 = y := ⟨_, rfl⟩
      rw [hy] at haw hos
      by_cases hy0 : 0 < y
      · rw [decide_eq_true hy0] at haw
        rw [if_neg (by omega), List.append_nil] at hos
        have HAW := Lib.hid haw
        have HOS := Lib.hid hos
        clear haw hos hgd hy hy0 t2
        go_wp2_with fail
        refine HAW.out.mono ?_
        rintro e w2 ⟨rfl, k2⟩
        have K2 := Lib.hid k2
        clear k2
        go_wp2
        go_roundw
        case rel => exact ⟨i + 1, m, A2, c2, by omega, rfl, by go_num, Lib.hid (by rw [HOS.out]; exact HM.out), Lib.hid (by rw [HOS.out]; exact K2.out.owns HO.out (fun _ _ => id)), Lib.hid (HK.out.trans K2.out)⟩
        case measure => simp [intOf]; omega
      · rw [decide_eq_false hy0] at haw
        rw [if_pos (by omega)] at hos
        have HAW := Lib.hid haw
        have HOS := Lib.hid hos
        clear haw hos hgd hy hy0 t2
        go_wp2_with fail
        refine HAW.out.mono ?_
        rintro e w2 ⟨rfl, k2⟩
        obtain ⟨V1, hV1⟩ : ∃ V, w2.alloc (.cells #[.int .i64 (i : Int)] 3) = V := ⟨_, rfl⟩
        have kv1 : Keeps (fun _ => False) w2 V1 := by rw [← hV1]; exact (Keeps.refl _ _).alloc _
        have rv1 : V1.heap[w2.heap.size]? = some (.cells [Value.int .i64 (i : Int)].toArray 3 (0, 0)) := by rw [← hV1]; exact heap_alloc_new w2 _
        have HBI := Lib.hid (build_int (i : Int) w2)
        rw [hV1] at HBI
        have KV1 := Lib.hid (k2.trans kv1)
        have RV1 := Lib.hid rv1
        have HBV : B ≤ V1.heap.size := by have := HK.out.size; have := KV1.out.size; have := HB.out; omega
        clear k2 kv1 rv1 hV1
        go_wp2_with (first
          | (refine wpList_buildSlice_run13 (by rfl) 43 1 0 _ (by rfl) _ _ (by rfl) HBI.out ?_)
          | (refine wpList_append_own _ (by rfl) _ _ 43 (by rfl) B 3 ih zh 1 8 Try.underlying43 HII.out.1 HII.out.2.1 HII.out.2.2.1 HII.out.2.2.2.1 HII.out.2.2.2.2 (by decide) (.slice A2 m c2) m (nvs (Sc.opens s.ps i)) (by rfl) (KV1.out.owns HO.out (fun _ _ => id)) ⟨w2.heap.size, 0, none⟩ 1 1 [.int .i64 (i : Int)] (by rfl) (by rfl) (World.news_of_block RV1.out) (by intro u hu; cases hu with | head => rfl | tail _ h => cases h) (by unfold maxLen; omega) (by omega) HBV ?_; intro v3 V3 ho3 hg3 _; have HO3 := Lib.hid ho3; have HG3 := Lib.hid hg3; obtain ⟨A3, c3, rfl⟩ := own_slice ho3; clear ho3 hg3))
        have ho2 := KV1.out.owns HO.out (fun _ _ => id)
        have KW3 : Hid (Keeps (fun _ => False) w1 V3) := Lib.hid ((HK.out.trans KV1.out).trans' (T := fun k => (Value.slice A2 m c2).ownBlock = some k) ((Keeps.refl _ _).grown HG3.out (fun _ _ h => h)) (fun k hk e => by
          obtain ⟨_, _, hbk⟩ := own_block ho2 k e
          have := HB.out
          omega))
        have HO4 : Hid (V3.ownsRow B 3 1 (.slice A3 (m + 1) c3) (m + 1) (nvs (Sc.opens s.ps (i + 1)))) := Lib.hid (by rw [HOS.out, ← nvs_snoc]; exact HO3.out)
        have HM4 : Hid (m + 1 = (Sc.opens s.ps (i + 1)).length) := Lib.hid (by rw [HOS.out, List.length_append, ← HM.out]; rfl)
        clear ho2 HO3 HG3
        go_roundw
        case rel => exact ⟨i + 1, m + 1, A3, c3, by omega, rfl, by go_num, HM4, HO4, KW3⟩
        case measure => simp [intOf]; omega
    · obtain rfl : i = n := by omega
      have FIN := Lib.hid (And.intro HM.out (And.intro (own_base HO.out (show w.heap.size ≤ B by have := HB.out; have := HW1.out; omega)) (K1.out.trans HK.out)))
      go_wp2
      go_ret
      exact ⟨A2, m, c2, rfl, FIN.out.1, FIN.out.2.1, FIN.out.2.2⟩
end Go.Proofs.Ytdihkbkcefjeoaa
