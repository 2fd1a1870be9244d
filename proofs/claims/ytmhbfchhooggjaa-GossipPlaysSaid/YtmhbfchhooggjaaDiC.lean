/-
  Some are picked.
-/
import Derived.Test.YtmhbfchhooggjaaDiB
import Derived.Test.YtmhbfchhooggjaaClsW
namespace Go.Proofs.Ytmhbfchhooggjaa
open Go.RowKit Go.BigFrame
set_option linter.unusedVariables false
set_option linter.unusedSimpArgs false

theorem wpList_buildSlice_run17 {P : Program} {ops : Array Oper} {rest : List Oper} {o : Oper} {a : Act} {w w' : World} {Q : Exit → Act → World → Prop} (hgd : o.guard = none) (t : TypeId) (n m : Nat) (x : Operand) (ho : o.op = .buildSlice t n #[(m, x)])
    (u v : Value) (hx : a.eval x = u) (hrun : (Instr.buildSlice t n #[(m, u)]).run P w = .ok v w') (h : wpList P ops Q rest (a.put o.dst v) w') : wpList P ops Q (o :: rest) a w := by
  refine wpList_plain hgd fun _ hK => ?_
  unfold Oper.wp execOp
  simp only [ho, Sem.run_bind, Sem.run_pure, Result.andThen_ok, List.map_toArray, List.map_cons, List.map_nil, hx, hrun]
  exact hK _ _ h
theorem min_ints {P : Program} (w : World) (ts : Array TypeId) (t : TypeId) (a b m : Int) (h : min a b = m) : (Builtin.min_ ts t #[.int .i64 a, .int .i64 b]).run P w = .ok (.int .i64 m) w := by
  have e : (if b < a then b else a) = m := by
    split <;> omega
  rw [← e]
  simp [Builtin.min_, Builtin.min2]
/-- Dice that pick, in memory: what is left, what is picked. -/
structure Pk (w : World) (B g : Nat) (x : Di.Ds) (n k : Nat) (lv pv : Value) : Prop where
  dice : DiceAt w g x.s
  left : w.ownsRow B 3 1 lv (n - k) (ivs x.left)
  out : w.ownsRow B 3 1 pv k (ivs x.out)
  apart : ∀ b, lv.ownBlock = some b → pv.ownBlock ≠ some b
  below : B ≤ w.heap.size
set_option maxRecDepth 100000 in
set_option maxHeartbeats 4000000 in
theorem pick_any (w : World) (g : Nat) (s : BitVec 64) (A : Option Addr) (c : Nat) (l : List Int) (many : Int) (h : DiceAt w g s) (hS : Src w A (ivs l)) (h0 : A = none → c = 0) (hn : l.length ≤ 1000) (hm : (Lit.int .i64 many).wf = true) :
    Calls Try.prog 19 #[.pointer (some ⟨g, 0, none⟩), .slice A l.length c, .int .i64 many] w fun e w' => ∃ v, e = .returned v ∧ DiceAt w' g (Di.pick s l many).s ∧ w'.ownsRow w.heap.size 3 1 v (Di.pick s l many).out.length (ivs (Di.pick s l many).out) ∧ Keeps (fun k => k = g) w w' := by
  have hcl := iclone_any A c l w hS h0 hn
  have hb := bounds_i64 hm
  obtain ⟨n, hnn⟩ : ∃ n, l.length = n := ⟨_, rfl⟩
  obtain ⟨M, hM⟩ : ∃ M, min many (l.length : Int) = M := ⟨_, rfl⟩
  obtain ⟨lim, hlim⟩ : ∃ lim, M.toNat = lim := ⟨_, rfl⟩
  have HP : Hid (Di.pick s l many = Di.run lim ⟨s, l, []⟩ ∧ l.length = n) := Lib.hid ⟨by unfold Di.pick; rw [hM, hlim], hnn⟩
  have HCL := Lib.hid hcl
  have H := Lib.hid h
  rw [hnn] at HCL hM hn ⊢
  have hmin : ∀ (ts : Array TypeId) (t : TypeId) (V : World), (Builtin.min_ ts t #[.int .i64 many, .int .i64 (n : Int)]).run Try.prog V = .ok (.int .i64 M) V := fun ts t V => min_ints V ts t many n M hM
  have HM := Lib.hid (show M.toNat = lim ∧ lim ≤ n from ⟨hlim, by omega⟩)
  obtain ⟨ih, zh, hih, hzh, hsh, hbh, hzsh⟩ := info_in
  have HII := Lib.hid (And.intro hih (And.intro hzh (And.intro hsh (And.intro hbh hzsh))))
  clear hcl h hS h0 hm hnn hM hb hih hzh hsh hbh hzsh hlim
  go_enter Try.func19, Try.ntmps19
  go_wp2_with fail
  refine HCL.out.mono ?_
  rintro e w1 ⟨v, rfl, ho, hk⟩
  obtain ⟨A1, c1, rfl⟩ := own_slice ho
  obtain ⟨B, hB⟩ : ∃ B, w.heap.size = B := ⟨_, rfl⟩
  rw [hB] at ho
  have HB := Lib.hid hB
  have hg : g < w.heap.size := H.out.lt
  have P0 : Hid (Pk w1 B g (Di.run 0 ⟨s, l, []⟩) n 0 (.slice A1 n c1) (.slice none 0 0)) := Lib.hid ⟨H.out.keeps hk id, by rw [Nat.sub_zero]; exact ho, World.ownsRow_nil _ _ _ _, (fun b _ e => by cases e), by rw [← hB]; exact hk.size⟩
  have HK : Hid (Keeps (fun k => k = g) w w1) := Lib.hid (hk.mono (fun _ _ h => h.elim))
  have HG : Hid (g < B) := Lib.hid (by omega)
  clear ho hk hB hg
  go_wp2_with fail
  go_loopw [7, 8, 9, 16] (fun lv pv _ iv wr => ∃ (k : Nat) (A1 : Option Addr) (c1 : Nat) (A2 : Option Addr) (c2 : Nat), k ≤ lim ∧ lv = .slice A1 (n - k) c1 ∧ pv = .slice A2 k c2 ∧ iv = .int .i64 (k : Int) ∧ Hid (Pk wr B g (Di.run k ⟨s, l, []⟩) n k lv pv) ∧ Hid (Keeps (fun k => k = g) w wr)) (fun _ _ _ iv _ => lim - (intOf iv).toNat)
  case atStart => exact ⟨0, A1, c1, none, 0, by omega, rfl, rfl, rfl, P0, HK⟩
  case round =>
    obtain ⟨k, A3, c3, A2, c2, hk, rfl, rfl, rfl, hp, hkk⟩ := hrel
    by_cases hlt : k < lim
    · have hkM : (k : Int) < M := by have := HM.out; omega
      obtain ⟨x, hx⟩ : ∃ x, Di.run k ⟨s, l, []⟩ = x := ⟨_, rfl⟩
      rw [hx] at hp
      obtain ⟨m, hm⟩ : ∃ m, n - k = m := ⟨_, rfl⟩
      have hp' := hp.out
      rw [hm] at hp' ⊢
      have hkn : k < n := by have := HM.out.2; omega
      have hm0 : 0 < m := by omega
      have hmn : m ≤ n := by omega
      have hk1000 : k + 1 ≤ 1000 := by omega
      have hxl : x.left.length = m := by have := hp'.left.1; rw [ivs_length] at this; omega
      obtain ⟨b3, hA3⟩ : ∃ b3, A3 = some ⟨b3, 0, none⟩ := by
        rcases hp'.left.2 with ⟨h1, h2⟩ | ⟨b3, cap, cur, h1, _⟩
        · omega
        · injection h1 with h1; exact ⟨b3, h1⟩
      subst hA3
      obtain ⟨c3n, hb3B⟩ : b3 < wr.heap.size ∧ B ≤ b3 := by
        obtain ⟨cur, hg, hb⟩ := own_block hp'.left b3 rfl
        exact ⟨(Array.getElem?_eq_some_iff.1 hg).1, hb⟩
      have hleft : wr.ownsRow B 3 1 (.slice (some ⟨b3, 0, none⟩) m c3) m (ivs x.left) := by have h := hp'.left; rwa [hm] at h
      have HLEFT := Lib.hid hleft
      have hgb : g < B := HG.out
      have hcc : m ≤ c3 ∧ c3 ≤ 9223372036854775807 := by have := own_cap hp'.left; omega
      have hbel := below_any wr g x.s (m : Int) hp'.dice (by simp [Lit.wf, IntKind.min, IntKind.max, IntKind.signed, IntKind.bits]; omega)
      have hplt : (Di.bel x.s (m : Int)).2 < m := by have := Di.bel_lt x.s (m : Int) (by omega); omega
      have hgo : Di.run (k + 1) ⟨s, l, []⟩ = ⟨(Di.bel x.s (m : Int)).1, x.left.eraseIdx (Di.bel x.s (m : Int)).2, x.out ++ [x.left.getD (Di.bel x.s (m : Int)).2 0]⟩ := by
        show Di.go (Di.run k ⟨s, l, []⟩) = _
        rw [hx, Di.go_some (by omega), hxl]
      obtain ⟨s2, hs2⟩ : ∃ s2, (Di.bel x.s (m : Int)).1 = s2 := ⟨_, rfl⟩
      obtain ⟨p, hpp⟩ : ∃ p, (Di.bel x.s (m : Int)).2 = p := ⟨_, rfl⟩
      obtain ⟨v, hv⟩ : ∃ v, x.left.getD p 0 = v := ⟨_, rfl⟩
      rw [hs2, hpp] at hbel hgo
      rw [hpp] at hplt
      rw [hv] at hgo
      have hcell := ivs_at x.left p (by omega)
      rw [hv] at hcell
      have HBEL := Lib.hid hbel
      have HGO := Lib.hid hgo
      have HCELL := Lib.hid hcell
      have HX := Lib.hid (And.intro hx hxl)
      have HPK := Lib.hid hp'
      have HKN := Lib.hid (And.intro hm hkn)
      have HBB := Lib.hid (And.intro c3n hb3B)
      clear hleft hp hp' hbel hgo hcell hx hxl hs2 hpp hv hm hkn c3n hb3B hgb
      go_wp2_with fail
      refine HBEL.out.mono ?_
      rintro e w2 ⟨rfl, d2, k2⟩
      have ol2 := k2.owns HLEFT.out (fun b hb e => by injection hb with hb; have := HBB.out; have := HG.out; have hb' : b3 = b := hb; omega)
      have op2 := k2.owns HPK.out.out (fun b hb e => by obtain ⟨_, _, h⟩ := own_block HPK.out.out b hb; have := HG.out; omega)
      have cl : w2.cell? ⟨b3, p, none⟩ = some (.int .i64 v) := (ol2.cellAt p (show p < m * 1 by omega)).trans HCELL.out
      have hw2 : B ≤ w2.heap.size := Nat.le_trans HPK.out.below k2.size
      obtain ⟨V1, hV1⟩ : ∃ V, w2.alloc (.cells #[.int .i64 v] 3) = V := ⟨_, rfl⟩
      have kv1 : Keeps (fun _ => False) w2 V1 := by rw [← hV1]; exact (Keeps.refl _ _).alloc _
      have rv1 : V1.heap[w2.heap.size]? = some (.cells [Value.int .i64 v].toArray 3 (0, 0)) := by rw [← hV1]; exact heap_alloc_new w2 _
      have HBI := Lib.hid (build_int v w2)
      rw [hV1] at HBI
      have KV1 := Lib.hid kv1
      have RV1 : Hid (Src V1 (some ⟨w2.heap.size, 0, none⟩) [Value.int .i64 v]) := Lib.hid (fun j u hu => ⟨_, rfl, World.news_of_block rv1 j u hu⟩)
      have K2 := Lib.hid k2
      have OL2 := Lib.hid ol2
      have OP2 := Lib.hid op2
      have D2 := Lib.hid d2
      have HV1 := Lib.hid (And.intro hw2 (show w2.heap.size < V1.heap.size by rw [← hV1]; simp))
      clear kv1 rv1 hV1 k2 ol2 op2 d2 hw2
      go_wp2_with (first
        | (refine wpList_buildSlice_run17 (by rfl) 34 1 0 _ (by rfl) _ _ (by rfl) HBI.out ?_)
        | (refine wpList_append_src _ (by rfl) _ _ 34 (by rfl) B 3 ih zh 8 Try.underlying34 HII.out.1 HII.out.2.1 HII.out.2.2.1 HII.out.2.2.2.1 HII.out.2.2.2.2 (.slice A2 k c2) k (ivs x.out) (by rfl) (KV1.out.owns OP2.out (fun _ _ => id)) (some ⟨w2.heap.size, 0, none⟩) 1 1 [.int .i64 v] (by rfl) (by rfl) RV1.out (by intro u hu; cases hu with | head => rfl | tail _ h => cases h) (by unfold maxLen; omega) (by omega) (by have := HV1.out; omega) ?_; intro v3 V3 ho3 hg3 hob3; have HO3 := Lib.hid ho3; have HG3 := Lib.hid hg3; have HOB := Lib.hid hob3; obtain ⟨A4, c4, rfl⟩ := own_slice ho3; clear ho3 hg3 hob3)
        | fail)
      have ol1 := KV1.out.owns OL2.out (fun _ _ => id)
      have op1 := KV1.out.owns OP2.out (fun _ _ => id)
      have k13 : Keeps (fun j => (Value.slice A2 k c2).ownBlock = some j) V1 V3 := (Keeps.refl _ _).grown HG3.out (fun _ _ h => h)
      have ol3 := k13.owns ol1 (fun b hb e => HPK.out.apart b hb e)
      have hB3 : B ≤ V3.heap.size := by have := HV1.out; have := k13.size; omega
      have hd3 : DiceAt V3 g s2 := (Row.keeps D2.out KV1.out id).keeps k13 (fun e => by obtain ⟨_, _, h⟩ := own_block op1 g e; have := HG.out; omega)
      have hap : ∀ b, (Value.slice A4 (k + 1) c4).ownBlock = some b → b ≠ b3 := fun b hb e => by
        subst e
        rcases HOB.out with h1 | h1
        · exact HPK.out.apart b rfl (h1.symm.trans hb)
        · rw [h1] at hb; injection hb with hb; have := HBB.out; have := HV1.out; have := K2.out.size; omega
      have hdel := delete_any b3 p m c3 B x.left V3 ol3 hplt hB3
      have kw3 : Keeps (fun k => k = g) w V3 := (((hkk.out.trans K2.out).trans' KV1.out (fun _ _ h => h.elim)).trans' k13 (fun i hi e => by obtain ⟨_, _, h⟩ := own_block op1 i e; have := HB.out; omega))
      have HDEL := Lib.hid hdel
      have HD3 := Lib.hid hd3
      have HAP := Lib.hid hap
      have KW3 := Lib.hid kw3
      have HB3 := Lib.hid hB3
      clear ol1 op1 k13 ol3 hB3 hd3 hap hdel kw3 cl
      go_wp2_with fail
      refine HDEL.out.mono ?_
      rintro e w4 ⟨rfl, o4, k4⟩
      have hout := k4.owns HO3.out (fun b hb e => HAP.out b hb e)
      have hd4 := Row.keeps HD3.out k4 (fun e => by have := HBB.out; have := HG.out; omega)
      have kw4 : Keeps (fun k => k = g) w w4 := KW3.out.trans' k4 (fun i hi e => by have := HBB.out; have := HB.out; omega)
      have hmk : m - 1 = n - (k + 1) := by have := HKN.out; omega
      have PK4 : Hid (Pk w4 B g (Di.run (k + 1) ⟨s, l, []⟩) n (k + 1) (.slice (some ⟨b3, 0, none⟩) (n - (k + 1)) c3) (.slice A4 (k + 1) c4)) := Lib.hid (by
        rw [HGO.out]
        refine ⟨hd4, ?_, ?_, fun b hb e => HAP.out b e (by injection hb with hb; exact hb.symm), Nat.le_trans HB3.out k4.size⟩
        · rw [← hmk]; exact o4
        · show w4.ownsRow B 3 1 _ _ (ivs (x.out ++ [v]))
          rw [← ivs_append]; exact hout)
      have KW4 := Lib.hid kw4
      have HMK := Lib.hid hmk
      clear o4 k4 hout hd4 kw4 hmk
      go_wp2
      go_roundw
      case rel => exact ⟨k + 1, some ⟨b3, 0, none⟩, c3, A4, c4, by omega, by rw [HMK.out], rfl, by go_num, by rw [HMK.out]; exact PK4, KW4⟩
      case measure => simp [intOf]; omega
    · obtain rfl : k = lim := by omega
      have hkM : ¬ (k : Int) < M := by have := HM.out; omega
      have FIN : Hid (DiceAt wr g (Di.pick s l many).s ∧ wr.ownsRow B 3 1 (.slice A2 k c2) (Di.pick s l many).out.length (ivs (Di.pick s l many).out)) := Lib.hid (by
        have h1 := HP.out.1
        have h2 : (Di.run k ⟨s, l, []⟩).out.length = k := by rw [Di.run_out]; have := HP.out.2; have := HM.out.2; simp; omega
        rw [h1]
        refine ⟨hp.out.dice, ?_⟩
        rw [h2]
        exact hp.out.out)
      go_wp2
      go_ret
      exact ⟨_, rfl, FIN.out.1, by have h := FIN.out.2; rwa [← HB.out] at h, hkk.out⟩
end Go.Proofs.Ytmhbfchhooggjaa
