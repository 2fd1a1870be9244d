/-
  OctetReads: whatever is read of any bytes, in whatever order, is the document's, also its errors: for whatever bytes and whatever calls, the law returns true.
-/
import Derived.Test.YtgbdedkbkagndaaRefB
import Derived.Test.YtgbdedkbkagndaaStays
import Derived.BigRegion
import Derived.BigQuiet
import Derived.Deep.RegionHeld3
import Derived.Deep.DrawnRows
namespace Go.Proofs.Ytgbdedkbkagndaa
open Go.RowKit
set_option linter.unusedVariables false

section
variable {P : Program} {ops : Array Oper} {C : World → Prop} {Q : Act → Prop} {a : Act} {o : Oper} {rest : List Oper}
theorem wpQuiet_load_row (hw : Region.wanted o (yielded ops a.tmps) = true) (ty : TypeId) (x : Operand) (ho : o.op = .load ty x)
    (g : Nat) (hx : a.eval x = .pointer (some ⟨g, 0, none⟩)) (t : TypeId) (cs : Array Value) (fr : Nat × Nat) (d : TypeDesc) (hg : ∀ w, C w → w.heap[g]? = some (.cells cs t fr))
    (hu : P.underlying ty = some d) (hd : (match d with | .struct _ | .array _ _ => true | _ => false) = true) (hi : (P.info? ty).map (·.size) = some cs.size)
    (h : wpQuiet P ops C Q rest (a.put o.dst (.agg cs))) : wpQuiet P ops C Q (o :: rest) a := by
  refine BigFrame.wpQuiet_want hw fun K hK => ⟨.agg cs, fun w hw' => ?_, hK _ h⟩
  unfold Oper.quietAt execOp
  simp only [ho, hx, Instr.loadAt, Instr.sureAddr, Sem.run_bind, Sem.run_pure, Result.andThen_ok, run_loadVar_row w g t ty cs fr d (hg w hw') hu hd hi]
  exact ⟨rfl, rfl⟩
theorem wpQuiet_eq_agg (hw : Region.wanted o (yielded ops a.tmps) = true) (op : BinOp) (t t2 : TypeId) (x y : Operand) (ho : o.op = .binOp op t x y t2)
    (xs ys : Array Value) (hx : a.eval x = .agg xs) (hy : a.eval y = .agg ys) (hm : P.eqGuardType P.depth t = false) (v : Value) (hrun : ∀ w, (binOp op t (.agg xs) (.agg ys)).run P w = .ok v w)
    (h : wpQuiet P ops C Q rest (a.put o.dst v)) : wpQuiet P ops C Q (o :: rest) a := by
  refine BigFrame.wpQuiet_want hw fun K hK => ⟨v, fun w hw' => ?_, hK _ h⟩
  unfold Oper.quietAt execOp
  simp only [ho, hx, hy, Sem.run_bind, Sem.run_pure, Result.andThen_ok, run_eqGuard_agg w op t x y xs ys hm, hrun]
  exact ⟨rfl, rfl⟩
end

theorem Keeps.putR {w6 w7 : World} (q : Nat) (o : Obj) (a b : Value) (h : Below w6.heap.size w6 w7) : Keeps (fun k => k = q) w6 (((w7.alloc o).setCell ⟨q, 0, none⟩ a).setCell ⟨q, 1, none⟩ b) :=
  ((Keeps.of_below h).alloc o).trans (put_keeps _ q a b)

set_option maxRecDepth 100000 in
set_option maxHeartbeats 2000000 in
theorem reads_walk (A : Option Addr) (len cap : Nat) (zs : List Int) (A2 : Option Addr) (len2 cap2 : Nat) (zs2 : List Int) (w : World) (hr : IsRowU .u8 w A len cap zs) (hr2 : IsRowU .u8 w A2 len2 cap2 zs2) :
    Calls Try.prog 4 #[.slice A len cap, .slice A2 len2 cap2] w fun e w' => e = .returned (.bool true) ∧ Below w.heap.size w w' := by
  obtain ⟨bs, rfl, hs, hlc, hcm⟩ := hr.src
  obtain ⟨cs, rfl, hs2, hlc2, hcm2⟩ := hr2.src
  have AW := Lib.hid (awake_any w)
  clear hr hr2
  by_cases hlen : bs.length ≤ 300
  · by_cases hlen2 : cs.length ≤ 60
    · go_enter Try.func4, Try.ntmps4
      go_wp2_with fail
      refine AW.out.mono ?_
      rintro e w1 ⟨rfl, k1⟩
      go_wp2_with fail
      refine (newReader_any A cap bs _ (hs.later k1) (by omega)).mono ?_
      rintro e w2 ⟨rb, r, rfl, hrb, hrr, hrd, k5⟩
      have K2 := k1.trans (k5.below k1.size (fun _ _ => id))
      have hB := k1.size
      have hrbq := hrd.lt
      have hrq : Hid (∀ k, r = some k → k < w2.heap.size) := fun k h => (hrd.1 k h).1
      have hcv := run_string_src (P := Try.prog) w2 23 9 5 Try.underlying23 Try.underlying5 Try.underlying9 A bs cap (hs.later K2)
      have HRB : Hid (w.heap.size ≤ rb) := Nat.le_trans hB hrb
      have D2 := Lib.hid (hrd.keeps ((Keeps.refl (fun _ => False) w2).alloc (.cells #[.string (strOf bs), .int .i64 0] 40)) id (fun _ _ => id))
      have R2 : Hid (Rec (w2.alloc (.cells #[.string (strOf bs), .int .i64 0] 40)) w2.heap.size (bs, 0)) := heap_alloc_new w2 _
      have KW := Lib.hid (K2.alloc K2.size (.cells #[.string (strOf bs), .int .i64 0] 40))
      have hBq := K2.size
      clear k1 k5 hrr hrb hrd K2 hB
      go_wp2_with fail
      obtain ⟨w3, hw3⟩ : ∃ w3, w2.alloc (.cells #[.string (strOf bs), .int .i64 0] 40) = w3 := ⟨_, rfl⟩
      rw [hw3] at R2 D2 KW ⊢
      clear hw3 hcv
      obtain ⟨q, hq⟩ : ∃ q, w2.heap.size = q := ⟨_, rfl⟩
      rw [hq] at R2 hBq hrq hrbq ⊢
      clear hq
      go_loopw [8] (fun i wr => ∃ (k : Nat) (l : List UInt8) (e : Int), k ≤ cs.length ∧ i = .int .i64 k ∧ Rd wr rb r (l, e) ∧ Rec wr q (l, e) ∧ Below w.heap.size w wr ∧ l.length ≤ 300)
        (fun i _ => cs.length - (intOf i).toNat)
      case atStart => exact ⟨0, bs, 0, Nat.zero_le _, rfl, D2.out, R2.out, KW.out, hlen⟩
      case round =>
        obtain ⟨k, l, e, hk, rfl, hrd, hrec, hbl, hll⟩ := hrel
        clear R2 D2 KW
        by_cases hlt : k < cs.length
        · obtain ⟨a2, rfl⟩ := hs2.addr (j := k) (by rw [bvs_length]; exact hlt)
          have hc := (hs2.later hbl).at_ (bvs_at cs hlt)
          have hq := and3 cs[k]
          obtain ⟨c, hcc⟩ : ∃ c : Nat, cs[k].toNat = c := ⟨_, rfl⟩
          have hc0 : c < 256 := by have := cs[k].toNat_lt; omega
          rw [hcc] at hc hq
          clear hcc
          have HS2 := Lib.hid hs2
          have HS := Lib.hid hs
          clear hs2 hs
          by_cases q0 : c % 4 = 0
          · have hq0 : bits .and .u8 (c : Int) 3 = 0 := by rw [hq]; omega
            clear hq q0
            go_wp2_with fail
            refine (rdNum_any rb r _ (l, e) _ hrd).mono ?_
            rintro ex w6 ⟨rfl, d6, k6⟩
            have r6 : Rec w6 q (l, e) := hrec.keeps k6 (by omega)
            have b6 : Below w.heap.size w w6 := hbl.trans (k6.belowB hbl.size HRB.out)
            have c0 := r6.c0
            have c1 := r6.c1
            have R6 := Lib.hid r6
            have B6 := Lib.hid b6
            clear r6 b6 hc
            go_wp2_with fail
            refine (refReadNum_any _ (l, e) _ (by show l.length ≤ _; omega)).mono ?_
            rintro ex w7 ⟨rfl, k7⟩
            have hll6 := rnum_left ((c : Int) / 4 - 1) (l, e)
            have hp : RV (rnum ((c : Int) / 4 - 1) (l, e)).1 = .agg #[.string (strOf (rnum ((c : Int) / 4 - 1) (l, e)).1.1), .int .i64 (rnum ((c : Int) / 4 - 1) (l, e)).1.2] := rfl
            rw [hp]
            clear hp
            generalize rnum ((c : Int) / 4 - 1) (l, e) = p at *
            obtain ⟨⟨l1, e1⟩, x⟩ := p
            have hl1 : l1.length ≤ 300 := Nat.le_trans hll6 hll
            have k8 := Keeps.putR q (.cells #[.string (strOf l1), .int .i64 e1] 40) (.string (strOf l1)) (.int .i64 e1) k7
            have r7 : Rec (w7.alloc (.cells #[.string (strOf l1), .int .i64 e1] 40)) q (l, e) := R6.out.keeps (S := fun _ => False) ((Keeps.of_below k7).alloc _) id
            have R8 := Lib.hid (r7.put (l1, e1))
            have D8 : Hid (Rd _ rb r (l1, e1)) := d6.keeps k8 (by omega) (fun k hk => by have := hrq.out k hk; omega)
            have K8 := Lib.hid (B6.out.trans (k8.below B6.out.size (fun k hk e => by omega)))
            clear c0 c1
            have c0 := r7.c0
            have c1 := r7.c1
            have f0 := r7.f0
            have f1 := r7.f1
            clear r7 k8 d6 R6 B6 k7
            go_wp2_with fail
            obtain ⟨w8, hw8⟩ : ∃ w8, (((w7.alloc (.cells #[.string (strOf l1), .int .i64 e1] 40)).setCell ⟨q, 0, none⟩ (.string (strOf l1))).setCell ⟨q, 1, none⟩ (.int .i64 e1)) = w8 := ⟨_, rfl⟩
            rw [hw8] at R8 D8 K8 ⊢
            clear hw8 c0 c1 f0 f1
            have r8 : Rec w8.drew q (l1, e1) := R8.out
            have s0 := And.intro r8.c0 r8.c1
            have D8' : Hid (Rd w8.drew rb r (l1, e1)) := D8.out
            have K8' : Hid (Below w.heap.size w w8.drew) := K8.out.drew
            have R8' := Lib.hid r8
            clear r8 R8 D8 K8
            go_region_held3 (fun w' => w'.cell? ⟨q, 0, none⟩ = some (.string (strOf l1)) ∧ w'.cell? ⟨q, 1, none⟩ = some (.int .i64 e1)) (first | exact s9 | exact s0) (first
              | (go_at_call 26; refine (rdErr_any rb r (l1, e1) _ D8'.out).mono ?_; rintro ex wx ⟨rfl, rfl⟩)
              | (go_at_call 27; refine (rdEnd_any rb r (l1, e1) _ D8'.out).mono ?_; rintro ex wx ⟨rfl, rfl⟩)
              | (go_at_call 28; refine (refEnd_any (l1, e1) _).mono ?_; rintro ex w9 ⟨rfl, k9⟩; have r9 := R8'.out.below k9 R8'.out.lt; have s9 := And.intro r9.c0 r9.c1; have R9 := Lib.hid r9; have D9 := Lib.hid (D8'.out.keeps (S := fun _ => False) (Keeps.of_below k9) id (fun _ _ => id)); have K9 := Lib.hid (K8'.out.trans (k9.mono K8'.out.size)); clear r9 k9))
            all_goals
              go_wp2
              go_roundw
              case rel => exact ⟨k + 1, l1, e1, by omega, by go_num, D9.out, R9.out, K9.out, hl1⟩
              case measure => simp [intOf]; omega
          · by_cases q1 : c % 4 = 1
            · have hq0 : bits .and .u8 (c : Int) 3 = 1 := by rw [hq]; omega
              clear hq q0 q1
              go_wp2_with fail
              refine (rdRaw_any rb r _ (l, e) _ hrd (by show l.length ≤ _; omega)).mono ?_
              rintro ex w6 ⟨A6, c6, rfl, hown, d6, k6⟩
              have r6 : Rec w6 q (l, e) := hrec.keeps k6 (by omega)
              have b6 : Below w.heap.size w w6 := hbl.trans (k6.belowB hbl.size HRB.out)
              have s6 := Src.of_own hown
              have hq6 := hrec.lt
              have hA6 : Hid (∀ a, A6 = some a → q < a.block) := fun a ha => by
                have := (hown.lt a.block (by rw [ha]; rfl)).1
                omega
              have c0 := r6.c0
              have c1 := r6.c1
              have R6 := Lib.hid r6
              have B6 := Lib.hid b6
              clear r6 b6 hc hown hq6 hrec hbl hrd k6
              go_wp2_with fail
              refine (refRaw_any _ (l, e) _ (by show l.length ≤ _; omega)).mono ?_
              rintro ex w7 ⟨rfl, k7⟩
              have hll6 := rraw_left ((c : Int) / 4 - 1) (l, e)
              have hp : RV (rraw ((c : Int) / 4 - 1) (l, e)).1 = .agg #[.string (strOf (rraw ((c : Int) / 4 - 1) (l, e)).1.1), .int .i64 (rraw ((c : Int) / 4 - 1) (l, e)).1.2] := rfl
              rw [hp]
              clear hp
              generalize rraw ((c : Int) / 4 - 1) (l, e) = p at *
              obtain ⟨⟨l1, e1⟩, u⟩ := p
              have hl1 : l1.length ≤ 300 := Nat.le_trans hll6 hll
              have k8 := Keeps.putR q (.cells #[.string (strOf l1), .int .i64 e1] 40) (.string (strOf l1)) (.int .i64 e1) k7
              have r7 : Rec (w7.alloc (.cells #[.string (strOf l1), .int .i64 e1] 40)) q (l, e) := R6.out.keeps (S := fun _ => False) ((Keeps.of_below k7).alloc _) id
              have R8 := Lib.hid (r7.put (l1, e1))
              have D8 : Hid (Rd _ rb r (l1, e1)) := d6.keeps k8 (by omega) (fun k hk => by have := hrq.out k hk; omega)
              have K8 := Lib.hid (B6.out.trans (k8.below B6.out.size (fun k hk e => by omega)))
              have hcv := run_string_src (P := Try.prog) _ 23 9 5 Try.underlying23 Try.underlying5 Try.underlying9 A6 u c6 (s6.keeps k8 (fun a ha _ h => by have := hA6.out a ha; omega))
              have HCV : (convert 23 9 (.slice A6 u.length c6)).run Try.prog (((w7.alloc (.cells #[.string (strOf l1), .int .i64 e1] 40)).setCell ⟨q, 0, none⟩ (.string (strOf l1))).setCell ⟨q, 1, none⟩ (.int .i64 e1)) = .ok (.string (strOf u)) (((w7.alloc (.cells #[.string (strOf l1), .int .i64 e1] 40)).setCell ⟨q, 0, none⟩ (.string (strOf l1))).setCell ⟨q, 1, none⟩ (.int .i64 e1)) := hcv
              clear c0 c1 hcv s6
              have c0 := r7.c0
              have c1 := r7.c1
              have f0 := r7.f0
              have f1 := r7.f1
              clear r7 k8 d6 R6 B6 k7
              go_wp2_with fail
              clear HCV
              obtain ⟨w8, hw8⟩ : ∃ w8, (((w7.alloc (.cells #[.string (strOf l1), .int .i64 e1] 40)).setCell ⟨q, 0, none⟩ (.string (strOf l1))).setCell ⟨q, 1, none⟩ (.int .i64 e1)) = w8 := ⟨_, rfl⟩
              rw [hw8] at R8 D8 K8 ⊢
              clear hw8 c0 c1 f0 f1
              have r8 : Rec w8.drew q (l1, e1) := R8.out
              have s0 := And.intro r8.c0 r8.c1
              have D8' : Hid (Rd w8.drew rb r (l1, e1)) := D8.out
              have K8' : Hid (Below w.heap.size w w8.drew) := K8.out.drew
              have R8' := Lib.hid r8
              clear r8 R8 D8 K8
              go_region_held3 (fun w' => w'.cell? ⟨q, 0, none⟩ = some (.string (strOf l1)) ∧ w'.cell? ⟨q, 1, none⟩ = some (.int .i64 e1)) (first | exact s9 | exact s0) (first
                | (go_at_call 26; refine (rdErr_any rb r (l1, e1) _ D8'.out).mono ?_; rintro ex wx ⟨rfl, rfl⟩)
                | (go_at_call 27; refine (rdEnd_any rb r (l1, e1) _ D8'.out).mono ?_; rintro ex wx ⟨rfl, rfl⟩)
                | (go_at_call 28; refine (refEnd_any (l1, e1) _).mono ?_; rintro ex w9 ⟨rfl, k9⟩; have r9 := R8'.out.below k9 R8'.out.lt; have s9 := And.intro r9.c0 r9.c1; have R9 := Lib.hid r9; have D9 := Lib.hid (D8'.out.keeps (S := fun _ => False) (Keeps.of_below k9) id (fun _ _ => id)); have K9 := Lib.hid (K8'.out.trans (k9.mono K8'.out.size)); clear r9 k9))
              all_goals
                go_wp2
                go_roundw
                case rel => exact ⟨k + 1, l1, e1, by omega, by go_num, D9.out, R9.out, K9.out, hl1⟩
                case measure => simp [intOf]; omega
            · by_cases q2 : c % 4 = 2
              · have hq0 : bits .and .u8 (c : Int) 3 = 2 := by rw [hq]; omega
                clear hq q0 q1 q2
                go_wp2_with fail
                refine (rdBytes_any rb r _ (l, e) _ hrd (by show l.length ≤ _; omega)).mono ?_
                rintro ex w6 ⟨A6, c6, rfl, hown, d6, k6⟩
                have r6 : Rec w6 q (l, e) := hrec.keeps k6 (by omega)
                have b6 : Below w.heap.size w w6 := hbl.trans (k6.belowB hbl.size HRB.out)
                have s6 := Src.of_own hown
                have hq6 := hrec.lt
                have hA6 : Hid (∀ a, A6 = some a → q < a.block) := fun a ha => by
                  have := (hown.lt a.block (by rw [ha]; rfl)).1
                  omega
                have c0 := r6.c0
                have c1 := r6.c1
                have R6 := Lib.hid r6
                have B6 := Lib.hid b6
                clear r6 b6 hc hown hq6 hrec hbl hrd k6
                go_wp2_with fail
                refine (refReadBytes_any _ (l, e) _ (by show l.length ≤ _; omega) (by omega) (by omega)).mono ?_
                rintro ex w7 ⟨rfl, k7⟩
                have hll6 := rbytes_left ((c : Int) / 4 - 1) (l, e)
                have hp : RV (rbytes ((c : Int) / 4 - 1) (l, e)).1 = .agg #[.string (strOf (rbytes ((c : Int) / 4 - 1) (l, e)).1.1), .int .i64 (rbytes ((c : Int) / 4 - 1) (l, e)).1.2] := rfl
                rw [hp]
                clear hp
                generalize rbytes ((c : Int) / 4 - 1) (l, e) = p at *
                obtain ⟨⟨l1, e1⟩, u⟩ := p
                have hl1 : l1.length ≤ 300 := Nat.le_trans hll6 hll
                have k8 := Keeps.putR q (.cells #[.string (strOf l1), .int .i64 e1] 40) (.string (strOf l1)) (.int .i64 e1) k7
                have r7 : Rec (w7.alloc (.cells #[.string (strOf l1), .int .i64 e1] 40)) q (l, e) := R6.out.keeps (S := fun _ => False) ((Keeps.of_below k7).alloc _) id
                have R8 := Lib.hid (r7.put (l1, e1))
                have D8 : Hid (Rd _ rb r (l1, e1)) := d6.keeps k8 (by omega) (fun k hk => by have := hrq.out k hk; omega)
                have K8 := Lib.hid (B6.out.trans (k8.below B6.out.size (fun k hk e => by omega)))
                have hcv := run_string_src (P := Try.prog) _ 23 9 5 Try.underlying23 Try.underlying5 Try.underlying9 A6 u c6 (s6.keeps k8 (fun a ha _ h => by have := hA6.out a ha; omega))
                have HCV : (convert 23 9 (.slice A6 u.length c6)).run Try.prog (((w7.alloc (.cells #[.string (strOf l1), .int .i64 e1] 40)).setCell ⟨q, 0, none⟩ (.string (strOf l1))).setCell ⟨q, 1, none⟩ (.int .i64 e1)) = .ok (.string (strOf u)) (((w7.alloc (.cells #[.string (strOf l1), .int .i64 e1] 40)).setCell ⟨q, 0, none⟩ (.string (strOf l1))).setCell ⟨q, 1, none⟩ (.int .i64 e1)) := hcv
                clear c0 c1 hcv s6
                have c0 := r7.c0
                have c1 := r7.c1
                have f0 := r7.f0
                have f1 := r7.f1
                clear r7 k8 d6 R6 B6 k7
                go_wp2_with fail
                clear HCV
                obtain ⟨w8, hw8⟩ : ∃ w8, (((w7.alloc (.cells #[.string (strOf l1), .int .i64 e1] 40)).setCell ⟨q, 0, none⟩ (.string (strOf l1))).setCell ⟨q, 1, none⟩ (.int .i64 e1)) = w8 := ⟨_, rfl⟩
                rw [hw8] at R8 D8 K8 ⊢
                clear hw8 c0 c1 f0 f1
                have r8 : Rec w8.drew q (l1, e1) := R8.out
                have s0 := And.intro r8.c0 r8.c1
                have D8' : Hid (Rd w8.drew rb r (l1, e1)) := D8.out
                have K8' : Hid (Below w.heap.size w w8.drew) := K8.out.drew
                have R8' := Lib.hid r8
                clear r8 R8 D8 K8
                go_region_held3 (fun w' => w'.cell? ⟨q, 0, none⟩ = some (.string (strOf l1)) ∧ w'.cell? ⟨q, 1, none⟩ = some (.int .i64 e1)) (first | exact s9 | exact s0) (first
                  | (go_at_call 26; refine (rdErr_any rb r (l1, e1) _ D8'.out).mono ?_; rintro ex wx ⟨rfl, rfl⟩)
                  | (go_at_call 27; refine (rdEnd_any rb r (l1, e1) _ D8'.out).mono ?_; rintro ex wx ⟨rfl, rfl⟩)
                  | (go_at_call 28; refine (refEnd_any (l1, e1) _).mono ?_; rintro ex w9 ⟨rfl, k9⟩; have r9 := R8'.out.below k9 R8'.out.lt; have s9 := And.intro r9.c0 r9.c1; have R9 := Lib.hid r9; have D9 := Lib.hid (D8'.out.keeps (S := fun _ => False) (Keeps.of_below k9) id (fun _ _ => id)); have K9 := Lib.hid (K8'.out.trans (k9.mono K8'.out.size)); clear r9 k9))
                all_goals
                  go_wp2
                  go_roundw
                  case rel => exact ⟨k + 1, l1, e1, by omega, by go_num, D9.out, R9.out, K9.out, hl1⟩
                  case measure => simp [intOf]; omega
              · have hq0 : bits .and .u8 (c : Int) 3 = 3 := by rw [hq]; omega
                clear hq q0 q1 q2
                go_wp2_with fail
                refine (rdHash_any rb r (l, e) _ hrd).mono ?_
                rintro ex w6 ⟨rfl, d6, k6⟩
                have r6 : Rec w6 q (l, e) := hrec.keeps k6 (by omega)
                have b6 : Below w.heap.size w w6 := hbl.trans (k6.belowB hbl.size HRB.out)
                have hq6 := r6.lt
                have hrb6 := d6.lt
                have hf := tk_full 32 (l, e)
                have hll6 := tk_left 32 (l, e)
                have hraw : rraw 32 (l, e) = tk 32 (l, e) := by unfold rraw; rw [if_neg (by omega)]; rfl
                have HRAW := fun (w : World) => refRaw_any 32 (l, e) w (by show l.length ≤ _; omega)
                rw [hraw] at HRAW
                have hp1 : (rhash (l, e)).1 = (tk 32 (l, e)).1 := rfl
                have hp2 : (rhash (l, e)).2 = if (tk 32 (l, e)).2.length = 32 then (tk 32 (l, e)).2 else List.replicate 32 0 := rfl
                obtain ⟨hb, hhb⟩ : ∃ hb, (if (tk 32 (l, e)).2.length = 32 then (tk 32 (l, e)).2 else List.replicate 32 0) = hb := ⟨_, rfl⟩
                rw [hp1] at d6
                rw [hp2, hhb]
                clear hp1 hp2 hraw
                generalize tk 32 (l, e) = p at *
                obtain ⟨⟨l1, e1⟩, u⟩ := p
                have hl1 : l1.length ≤ 300 := Nat.le_trans hll6 hll
                have hcase : Hid ((u = [] ∧ hb = List.replicate 32 0) ∨ (u.length = 32 ∧ u = hb)) := by
                  rcases hf with h | h
                  · have h' : u.length = 32 := h
                    exact .inr ⟨h', by rw [← hhb]; exact (if_pos h').symm⟩
                  · have h' : u = [] := h
                    subst h'
                    exact .inl ⟨rfl, hhb.symm⟩
                have hb32 : hb.length = 32 := by
                  rcases hcase.out with ⟨_, h⟩ | ⟨h1, h2⟩
                  · rw [h]; simp
                  · rw [← h2]; exact h1
                have HRW : Hid (∀ w, Calls Try.prog 22 #[.agg #[.string (strOf l), .int .i64 e], .int .i64 32] w (Said2 (.agg #[.string (strOf l1), .int .i64 e1]) (.string (strOf u)) w)) := HRAW
                have HZ : Hid ((w6.alloc (.cells (bvs (List.replicate 32 0)).toArray 25)).heap[w6.heap.size]? = some (.cells (bvs (List.replicate 32 0)).toArray 25 (0, 0))) := heap_alloc_new w6 _
                have HS7 : Hid ((Try.prog.info? 25).map (·.size) = some (bvs hb).toArray.size) := by
                  show _ = _
                  rw [List.size_toArray, bvs_length, hb32]
                  exact size_hash
                have HS0 : Hid ((bvs (List.replicate 32 0)).toArray.size = (bvs hb).toArray.size) := by
                  show _ = _
                  simp [bvs_length, hb32]
                have HK : Hid (∀ w10, Keeps (fun k => k = w6.heap.size) (w6.alloc (.cells (bvs (List.replicate 32 0)).toArray 25)) w10 → Keeps (fun k => k = w6.heap.size) w6 w10) := fun w10 h => ((Keeps.refl _ w6).alloc _).trans h
                have R6 := Lib.hid r6
                have B6 := Lib.hid b6
                have H32 := Lib.hid hb32
                clear hf hll6 HRAW hhb r6 b6 hc hrec hbl hrd k6 hb32
                go_wp2_with (refine wpList_store_abs (by rfl) 25 (.tmp 20) (.tmp 59) (by rfl) w6.heap.size (bvs hb).toArray (by rfl) (by rfl) 25 (bvs (List.replicate 32 0)).toArray HZ.out HS7.out HS0.out (bvs_all _) ?_; intro w10 HH k10; have kk := HK.out _ k10; have r10 : Rec w10 q (l, e) := R6.out.keeps kk (by omega); have c0 := r10.c0; have c1 := r10.c1)
                refine (HRW.out _).mono ?_
                rintro ex w7 ⟨rfl, k7⟩
                have d10 : Rd w10 rb r (l1, e1) := d6.keeps kk (by omega) (fun k hk => by have := hrq.out k hk; omega)
                have b10 : Below w.heap.size w w10 := B6.out.trans (kk.below B6.out.size (fun k hk e => by have := B6.out.size; omega))
                have hG10 : w6.heap.size < w10.heap.size := (Array.getElem?_eq_some_iff.1 HH.out).1
                have k8 := Keeps.putR q (.cells #[.string (strOf l1), .int .i64 e1] 40) (.string (strOf l1)) (.int .i64 e1) k7
                have r7 : Rec (w7.alloc (.cells #[.string (strOf l1), .int .i64 e1] 40)) q (l, e) := r10.keeps (S := fun _ => False) ((Keeps.of_below k7).alloc _) id
                have R8 := Lib.hid (r7.put (l1, e1))
                have D8 : Hid (Rd _ rb r (l1, e1)) := d10.keeps k8 (by omega) (fun k hk => by have := hrq.out k hk; omega)
                have K8 := Lib.hid (b10.trans (k8.below b10.size (fun k hk e => by omega)))
                have G8 := Lib.hid ((k8.block w6.heap.size hG10 (by omega)).trans HH.out)
                clear c0 c1
                have c0 := r7.c0
                have c1 := r7.c1
                have f0 := r7.f0
                have f1 := r7.f1
                clear r7 k8 d6 R6 B6 k7 r10 d10 b10 kk k10 HH HK HZ HS0 HRW
                go_wp2_with fail
                obtain ⟨w8, hw8⟩ : ∃ w8, (((w7.alloc (.cells #[.string (strOf l1), .int .i64 e1] 40)).setCell ⟨q, 0, none⟩ (.string (strOf l1))).setCell ⟨q, 1, none⟩ (.int .i64 e1)) = w8 := ⟨_, rfl⟩
                rw [hw8] at R8 D8 K8 G8 ⊢
                clear hw8 c0 c1 f0 f1
                obtain ⟨G, hG⟩ : ∃ G, w6.heap.size = G := ⟨_, rfl⟩
                rw [hG] at G8 ⊢
                clear hG hG10
                rcases hcase.out with ⟨rfl, rfl⟩ | ⟨hu32, rfl⟩
                · have HE : Hid (∀ W : World, (binOp .eql 25 (.agg (bvs (List.replicate 32 0)).toArray) (.agg (bvs (List.replicate 32 0)).toArray)).run Try.prog W = .ok (.bool true) W) := fun W => by
                    obtain ⟨i0, hi, _⟩ := info_parts info_u8
                    rw [run_eql_bytes W 25 5 32 Try.underlying25 Try.underlying5 hi (by kernel_rfl) (by kernel_rfl) (List.replicate 32 0) (List.replicate 32 0) (by simp) (by simp)]
                    simp
                  have hem : (strOf []).toList.isEmpty = true := by simp [strOf, ByteArray.toList_mk]
                  refine wp_region_quiet_lit (by kernel_rfl) (by kernel_rfl) ?_
                  go_big_quiet_step (fail)
                  go_big_quiet_step (fail)
                  go_big_quiet_step (fail)
                  refine wpQuiet_load_row (by rfl) 25 (.tmp 20) (by rfl) G (by rfl) 25 (bvs (List.replicate 32 0)).toArray (0, 0) _ (by rintro _ ⟨n, rfl⟩; exact G8.out) Try.underlying25 rfl HS7.out ?_
                  simp only [Act.put, List.setIfInBounds_toArray, List.set_cons_zero, List.set_cons_succ]
                  go_big_quiet_step (fail)
                  refine wpQuiet_eq_agg (by rfl) .eql 25 _ (.tmp 69) (.tmp 70) (by rfl) (bvs (List.replicate 32 0)).toArray (bvs (List.replicate 32 0)).toArray (by rfl) (by rfl) (by kernel_rfl) (.bool true) HE.out ?_
                  simp only [Act.put, List.setIfInBounds_toArray, List.set_cons_zero, List.set_cons_succ]
                  repeat (go_big_quiet_step (fail))
                  refine wpQuiet_nil ?_
                  rintro _ ⟨nq, rfl⟩
                  clear HE hem
                  go_wp2_with fail
                  have R8 : Hid (Rec (w8.drewN nq) q (l1, e1)) := R8.out
                  have D8 : Hid (Rd (w8.drewN nq) rb r (l1, e1)) := D8.out
                  have K8 : Hid (Below w.heap.size w (w8.drewN nq)) := K8.out.trans ((Keeps.refl (fun _ => False) w8).drewN nq |>.below K8.out.size (fun _ _ => id))
                  obtain ⟨wA, hw8⟩ : ∃ wA, w8.drewN nq = wA := ⟨_, rfl⟩
                  rw [hw8] at R8 D8 K8 ⊢
                  clear hw8
                  have r8 : Rec wA.drew q (l1, e1) := R8.out
                  have s0 := And.intro r8.c0 r8.c1
                  have D8' : Hid (Rd wA.drew rb r (l1, e1)) := D8.out
                  have K8' : Hid (Below w.heap.size w wA.drew) := K8.out.drew
                  have R8' := Lib.hid r8
                  clear r8 R8 D8 K8
                  go_region_held3 (fun w' => w'.cell? ⟨q, 0, none⟩ = some (.string (strOf l1)) ∧ w'.cell? ⟨q, 1, none⟩ = some (.int .i64 e1)) (first | exact s9 | exact s0) (first
                    | (go_at_call 26; refine (rdErr_any rb r (l1, e1) _ D8'.out).mono ?_; rintro ex wx ⟨rfl, rfl⟩)
                    | (go_at_call 27; refine (rdEnd_any rb r (l1, e1) _ D8'.out).mono ?_; rintro ex wx ⟨rfl, rfl⟩)
                    | (go_at_call 28; refine (refEnd_any (l1, e1) _).mono ?_; rintro ex w9 ⟨rfl, k9⟩; have r9 := R8'.out.below k9 R8'.out.lt; have s9 := And.intro r9.c0 r9.c1; have R9 := Lib.hid r9; have D9 := Lib.hid (D8'.out.keeps (S := fun _ => False) (Keeps.of_below k9) id (fun _ _ => id)); have K9 := Lib.hid (K8'.out.trans (k9.mono K8'.out.size)); clear r9 k9))
                  all_goals
                    go_wp2
                    go_roundw
                    case rel => exact ⟨k + 1, l1, e1, by omega, by go_num, D9.out, R9.out, K9.out, hl1⟩
                    case measure => simp [intOf]; omega
                · have hne : (strOf u).toList.isEmpty = false := by
                    cases u with
                    | nil => simp at hu32
                    | cons c u => simp [strOf, ByteArray.toList_mk]
                  have hsz : (strOf u).size = 32 := hu32
                  have x0 : w8.cell? ⟨G, 0, none⟩ = some (.int .u8 (((strOf u)[0]'(by omega)).toNat : Int)) := by
                    have := cell0 G8.out 0
                    rw [this, List.getElem?_toArray, bvs_at u (show 0 < u.length by omega)]
                    rfl
                  have x31 : w8.cell? ⟨G, 31, none⟩ = some (.int .u8 (((strOf u)[31]'(by omega)).toNat : Int)) := by
                    have := cell0 G8.out 31
                    rw [this, List.getElem?_toArray, bvs_at u (show 31 < u.length by omega)]
                    rfl
                  go_quiet (fail)
                  clear x0 x31 hne
                  go_wp2_with fail
                  have R8 : Hid (Rec (w8.drewN nq) q (l1, e1)) := R8.out
                  have D8 : Hid (Rd (w8.drewN nq) rb r (l1, e1)) := D8.out
                  have K8 : Hid (Below w.heap.size w (w8.drewN nq)) := K8.out.trans ((Keeps.refl (fun _ => False) w8).drewN nq |>.below K8.out.size (fun _ _ => id))
                  obtain ⟨wA, hw8⟩ : ∃ wA, w8.drewN nq = wA := ⟨_, rfl⟩
                  rw [hw8] at R8 D8 K8 ⊢
                  clear hw8
                  have r8 : Rec wA.drew q (l1, e1) := R8.out
                  have s0 := And.intro r8.c0 r8.c1
                  have D8' : Hid (Rd wA.drew rb r (l1, e1)) := D8.out
                  have K8' : Hid (Below w.heap.size w wA.drew) := K8.out.drew
                  have R8' := Lib.hid r8
                  clear r8 R8 D8 K8
                  go_region_held3 (fun w' => w'.cell? ⟨q, 0, none⟩ = some (.string (strOf l1)) ∧ w'.cell? ⟨q, 1, none⟩ = some (.int .i64 e1)) (first | exact s9 | exact s0) (first
                    | (go_at_call 26; refine (rdErr_any rb r (l1, e1) _ D8'.out).mono ?_; rintro ex wx ⟨rfl, rfl⟩)
                    | (go_at_call 27; refine (rdEnd_any rb r (l1, e1) _ D8'.out).mono ?_; rintro ex wx ⟨rfl, rfl⟩)
                    | (go_at_call 28; refine (refEnd_any (l1, e1) _).mono ?_; rintro ex w9 ⟨rfl, k9⟩; have r9 := R8'.out.below k9 R8'.out.lt; have s9 := And.intro r9.c0 r9.c1; have R9 := Lib.hid r9; have D9 := Lib.hid (D8'.out.keeps (S := fun _ => False) (Keeps.of_below k9) id (fun _ _ => id)); have K9 := Lib.hid (K8'.out.trans (k9.mono K8'.out.size)); clear r9 k9))
                  all_goals
                    go_wp2
                    go_roundw
                    case rel => exact ⟨k + 1, l1, e1, by omega, by go_num, D9.out, R9.out, K9.out, hl1⟩
                    case measure => simp [intOf]; omega
        · have HE : Hid (∀ W : World, (binOp .eql 25 (.agg (bvs (List.replicate 32 0)).toArray) (.agg (bvs (List.replicate 32 0)).toArray)).run Try.prog W = .ok (.bool true) W) := fun W => by
            obtain ⟨i0, hi, _⟩ := info_parts info_u8
            rw [run_eql_bytes W 25 5 32 Try.underlying25 Try.underlying5 hi (by kernel_rfl) (by kernel_rfl) (List.replicate 32 0) (List.replicate 32 0) (by simp) (by simp)]
            simp
          clear hs hs2 hrd hrec
          go_wp2_with (first
            | (go_at_call 19; refine (rdNum_nil _ _).mono ?_; rintro ex wx ⟨rfl, rfl⟩)
            | (go_at_call 21; refine (rdRaw_nil _ _).mono ?_; rintro ex wx ⟨rfl, rfl⟩)
            | (go_at_call 23; refine (rdBytes_nil _ _).mono ?_; rintro ex wx ⟨rfl, rfl⟩)
            | (go_at_call 25; refine (rdHash_nil _).mono ?_; rintro ex w9 ⟨rfl, k9⟩)
            | (go_at_call 26; refine (rdErr_nil _).mono ?_; rintro ex wx ⟨rfl, rfl⟩)
            | (go_at_call 27; refine (rdEnd_nil _).mono ?_; rintro ex wx ⟨rfl, rfl⟩)
            | (refine wpList_eq_agg_w (by rfl) .eql 25 _ (.tmp 170) (.tmp 171) (by rfl) (bvs (List.replicate 32 0)).toArray (bvs (List.replicate 32 0)).toArray (by rfl) (by rfl) (by kernel_rfl) (.bool true) (HE.out _) ?_))
          go_ret
          exact ⟨rfl, hbl.trans (k9.below hbl.size (fun _ _ => id))⟩
    · go_enter Try.func4, Try.ntmps4
      go_wp2_with fail
      refine AW.out.mono ?_
      rintro e w1 ⟨rfl, k1⟩
      go_wp2
      go_ret
      exact ⟨rfl, k1⟩
  · go_enter Try.func4, Try.ntmps4
    go_wp2_with fail
    refine AW.out.mono ?_
    rintro e w1 ⟨rfl, k1⟩
    go_wp2
    go_ret
    exact ⟨rfl, k1⟩
end Go.Proofs.Ytgbdedkbkagndaa
