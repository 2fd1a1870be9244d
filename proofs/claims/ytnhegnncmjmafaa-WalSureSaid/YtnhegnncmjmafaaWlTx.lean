/-
  The law's texts of rows; are rows the same as texts?
-/
import Derived.Test.YtnhegnncmjmafaaWlFe
import Derived.Test.YtnhegnncmjmafaaEq
import Derived.Test.YtnhegnncmjmafaaEqB
import Derived.Test.YtnhegnncmjmafaaWalkE
import Derived.Maps.AppendAt
namespace Go.Proofs.Ytnhegnncmjmafaa
open Go.RowKit Go.BigFrame
set_option linter.unusedVariables false
set_option linter.unusedSimpArgs false

def svals12 (l : List (List UInt8)) : List Value := l.map fun b => .string (strOf b)
theorem svals12_length (l : List (List UInt8)) : (svals12 l).length = l.length := by simp [svals12]
theorem svals12_get (l : List (List UInt8)) (i : Nat) : (svals12 l)[i]? = l[i]?.map fun b => .string (strOf b) := by simp [svals12]
theorem svals12_snoc (l : List (List UInt8)) (b : List UInt8) : svals12 l ++ [.string (strOf b)] = svals12 (l ++ [b]) := by simp [svals12]
theorem build_str12 (b : ByteArray) (V : World) : (Instr.buildSlice 32 1 #[(0, .string b)]).run Try.prog V = .ok (.slice (some ⟨V.heap.size, 0, none⟩) 1 1) (V.alloc (.cells #[.string b] 9)) := by kernel_rfl
theorem info_str12 : (Try.prog.info? 9).map (fun i => (i.zero, i.size, i.bytes)) = some (some (.string ByteArray.empty), 1, 16) := by kernel_rfl
theorem info_st12s : ∃ (ih : TypeInfo) (zh : Value), Try.prog.info? 9 = some ih ∧ ih.zero = some zh ∧ ih.size = 1 ∧ ih.bytes = 16 ∧ zh.cells.size = 1 := by
  have h := info_str12
  obtain ⟨ih, hi, h⟩ := Option.map_eq_some_iff.1 h
  simp only [Prod.mk.injEq] at h
  exact ⟨ih, _, hi, h.1, h.2.1, h.2.2, rfl⟩
theorem wpList_buildSlice_run12 {P : Program} {ops : Array Oper} {rest : List Oper} {o : Oper} {a : Act} {w w' : World} {Q : Exit → Act → World → Prop} (hgd : o.guard = none) (t : TypeId) (n m : Nat) (x : Operand) (ho : o.op = .buildSlice t n #[(m, x)])
    (u v : Value) (hx : a.eval x = u) (hrun : (Instr.buildSlice t n #[(m, u)]).run P w = .ok v w') (h : wpList P ops Q rest (a.put o.dst v) w') : wpList P ops Q (o :: rest) a w := by
  refine wpList_plain hgd fun _ hK => ?_
  unfold Oper.wp execOp
  simp only [ho, Sem.run_bind, Sem.run_pure, Result.andThen_ok, List.map_toArray, List.map_cons, List.map_nil, hx, hrun]
  exact hK _ _ h
theorem bsOf_take_succ (rs : List RowOf) (i : Nat) (r : RowOf) (h : rs[i]? = some r) : bsOf (rs.take (i + 1)) = bsOf (rs.take i) ++ [r.2.2] := by
  obtain ⟨hi, hr⟩ := List.getElem?_eq_some_iff.1 h
  rw [List.take_succ_eq_append_getElem hi, hr]
  unfold bsOf
  rw [List.map_append]
  rfl
set_option maxRecDepth 100000 in
set_option maxHeartbeats 2000000 in
theorem texts12_any (A : Option Addr) (c : Nat) (rs : List RowOf) (w : World) (hR : RowsAt w A rs) (hmax : rs.length ≤ 100000) :
    Calls Try.prog 16 #[.slice A rs.length c] w fun e w' => ∃ A' c', e = .returned (.slice A' rs.length c') ∧ w'.ownsRow w.heap.size 9 1 (.slice A' rs.length c') rs.length (svals12 (bsOf rs)) ∧ Keeps (fun _ => False) w w' := by
  obtain ⟨n, hn⟩ : ∃ n, rs.length = n := ⟨_, rfl⟩
  obtain ⟨ih, zh, hih, hzh, hsh, hbh, hzsh⟩ := info_st12s
  have HII := Lib.hid (And.intro hih (And.intro hzh (And.intro hsh (And.intro hbh hzsh))))
  obtain ⟨b, hb⟩ : ∃ b, w.heap.size = b := ⟨_, rfl⟩
  have HB := Lib.hid hb
  rw [hn] at hmax ⊢
  rw [hb]
  have HN := Lib.hid (And.intro hn hmax)
  have HR := Lib.hid hR
  clear hn hR hih hzh hsh hbh hzsh hb hmax
  go_enter Try.func16, Try.ntmps16
  go_wp2
  go_loopw [3, 4] (fun lv iv wr => ∃ (i : Nat) (A2 : Option Addr) (c2 : Nat), i ≤ n ∧ lv = .slice A2 i c2 ∧ iv = .int .i64 (i : Int) ∧ Hid (wr.ownsRow b 9 1 (.slice A2 i c2) i (svals12 (bsOf (rs.take i)))) ∧ Hid (Keeps (fun _ => False) w wr)) (fun _ iv _ => n - (intOf iv).toNat)
  case atStart => exact ⟨0, none, 0, by omega, rfl, rfl, Lib.hid (World.ownsRow_nil _ _ _ _), Lib.hid (Keeps.refl _ _)⟩
  case round =>
    obtain ⟨i, A2, c2, hi, rfl, rfl, HO, HK⟩ := hrel
    by_cases hlt : i < n
    · have hii : (i : Int) < (n : Int) := by omega
      have hib : i ≤ 100000 := by have := HN.out.2; omega
      obtain ⟨r, hr⟩ : ∃ r, rs[i]? = some r := ⟨_, List.getElem?_eq_getElem (by rw [HN.out.1]; exact hlt)⟩
      have hRw := HR.out.keeps HK.out (fun _ _ => id)
      obtain ⟨ad, e, hc⟩ := hRw.cell i r hr
      subst e
      have hsr := hRw.src r (List.mem_of_getElem? hr)
      have hts := bsOf_take_succ rs i r hr
      obtain ⟨A1, c1, xs⟩ := r
      simp only at hc hsr hts
      have hst := run_string_src (P := Try.prog) (w := wr) 33 9 5 Try.underlying33 Try.underlying5 Try.underlying9 A1 xs c1 hsr
      obtain ⟨m, hm⟩ : ∃ m, xs.length = m := ⟨_, rfl⟩
      rw [hm] at hc hst
      obtain ⟨sx, hsx⟩ : ∃ s, strOf xs = s := ⟨_, rfl⟩
      rw [hsx] at hst
      obtain ⟨V1, hV1⟩ : ∃ V, wr.alloc (.cells #[.string sx] 9) = V := ⟨_, rfl⟩
      have kv1 : Keeps (fun _ => False) wr V1 := by rw [← hV1]; exact (Keeps.refl _ _).alloc _
      have rv1 : V1.heap[wr.heap.size]? = some (.cells [Value.string sx].toArray 9 (0, 0)) := by rw [← hV1]; exact heap_alloc_new wr _
      have HBI := Lib.hid (build_str12 sx wr)
      rw [hV1] at HBI
      have KV1 := Lib.hid kv1
      have RV1 := Lib.hid rv1
      have HBV : b ≤ V1.heap.size := by have := HK.out.size; have := KV1.out.size; have := HB.out; omega
      have HTS := Lib.hid hts
      have HSX := Lib.hid hsx
      clear kv1 rv1 hV1 hts hsr hRw hr hm hsx
      go_wp2_with (first
        | (refine wpList_buildSlice_run12 (by rfl) 32 1 0 (.tmp 16) (by rfl) _ _ (by rfl) HBI.out ?_)
        | (at_builtin; refine wpList_append_own _ (by rfl) _ _ 32 (by rfl) b 9 ih zh 1 16 Try.underlying32 HII.out.1 HII.out.2.1 HII.out.2.2.1 HII.out.2.2.2.1 HII.out.2.2.2.2 (by decide) (.slice A2 i c2) i (svals12 (bsOf (rs.take i))) (by rfl) (KV1.out.owns HO.out (fun _ _ => id)) ⟨wr.heap.size, 0, none⟩ 1 1 [.string sx] (by rfl) (by rfl) (World.news_of_block RV1.out) (by intro u hu; cases hu with | head => rfl | tail _ h => cases h) (by unfold maxLen; omega) (by omega) HBV ?_; intro v3 V3 ho3 hg3 _; have HO3 := Lib.hid ho3; have HG3 := Lib.hid hg3; obtain ⟨A3, c3, rfl⟩ := own_slice ho3; clear ho3 hg3))
      have ho2 := KV1.out.owns HO.out (fun _ _ => id)
      have KW3 : Hid (Keeps (fun _ => False) w V3) := Lib.hid ((HK.out.trans KV1.out).trans' (T := fun k => (Value.slice A2 i c2).ownBlock = some k) ((Keeps.refl _ _).grown HG3.out (fun _ _ h => h)) (fun k hk e => by
        obtain ⟨_, _, hbk⟩ := own_block ho2 k e
        have := HB.out
        omega))
      have HO4 : Hid (V3.ownsRow b 9 1 (.slice A3 (i + 1) c3) (i + 1) (svals12 (bsOf (rs.take (i + 1))))) := Lib.hid (by rw [HTS.out, ← svals12_snoc, HSX.out]; exact HO3.out)
      clear ho2 HO3 HG3
      go_roundw
      case rel => exact ⟨i + 1, A3, c3, by omega, rfl, by go_num, HO4, KW3⟩
      case measure => simp [intOf]; omega
    · obtain rfl : i = n := by omega
      have FIN : Hid (wr.ownsRow b 9 1 (.slice A2 i c2) i (svals12 (bsOf rs)) ∧ Keeps (fun _ => False) w wr) := Lib.hid ⟨by have h := HO.out; rw [List.take_of_length_le (by rw [HN.out.1]; exact Nat.le_refl _)] at h; exact h, HK.out⟩
      go_wp2
      go_ret
      exact ⟨A2, c2, rfl, FIN.out.1, FIN.out.2⟩
theorem own_one12 {w : World} {base : Nat} {A : Option Addr} {c k : Nat} {v : Value} {xs : List Value} {n : Nat} {t : TypeId} (h : w.ownsRow base t 1 (.slice A n c) n xs) (hk : xs[k]? = some v) : ∃ g, A = some ⟨g, 0, none⟩ ∧ w.cell? ⟨g, k, none⟩ = some v := by
  obtain ⟨a, rfl, hc⟩ := (Src.of_own h) k v hk
  rcases h.2 with ⟨h1, _⟩ | ⟨g, cap, cur, h1, _⟩
  · cases h1
  · injection h1 with h1
    injection h1 with h1
    subst h1
    exact ⟨g, rfl, by rwa [add_plain, Nat.zero_add] at hc⟩
theorem exec_conv12 {P : Program} {o : Oper} {a : Act} {w : World} (t1 t2 : TypeId) (x : Operand) (ho : o.op = .convert t1 t2 x) (u v : Value) (hx : a.eval x = u) (hrun : (convert t1 t2 u).run P w = .ok v w) : (execOp a.eval o).run P w = .ok (.value v) w := by
  unfold execOp
  simp only [ho, hx, Sem.run_bind, Sem.run_pure, Result.andThen_ok, hrun]
end Go.Proofs.Ytnhegnncmjmafaa
