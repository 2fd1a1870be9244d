/-
  OctetOwn: what is put, and told, is other memory: for whatever bytes, and whatever byte, the law returns true.
-/
import Derived.Test.YtgbdedkbkagndabAwake
import Derived.Test.YtgbdedkbkagndabNums
import Derived.Laws.IdiomStrings
namespace Go.Proofs.Ytgbdedkbkagndab
open Go.RowKit
set_option linter.unusedVariables false

/-- '[]byte(s)': a new row; the world behind it is a letter. -/
theorem wpList_bytes_str {P : Program} {ops : Array Oper} {rest : List Oper} {o : Oper} {a : Act} {w : World} {Q : Exit → Act → World → Prop} (hgd : o.guard = none) (src dst e : TypeId) (x : Operand) (ho : o.op = .convert src dst x)
    (l : List UInt8) (hx : a.eval x = .string (strOf l)) (hs : P.underlying src = some .string) (hd : P.underlying dst = some (.slice e)) (he : P.underlying e = some (.int .u8))
    (h : ∀ c w', l.length ≤ c → Src w' (some ⟨w.heap.size, 0, none⟩) (bvs l) → (∀ j, j < l.length → w'.frozen? ⟨w.heap.size, j, none⟩ = false) → Keeps (fun _ => False) w w' → w.heap.size < w'.heap.size →
      wpList P ops Q rest (a.put o.dst (.slice (some ⟨w.heap.size, 0, none⟩) l.length c)) w') : wpList P ops Q (o :: rest) a w := by
  refine wpList_plain hgd fun K hK => ?_
  have hrun := run_bytes_of_string (P := P) w src dst e (strOf l) hs hd he
  unfold Oper.wp execOp
  simp only [ho, hx, Sem.run_bind, Sem.run_pure, Result.andThen_ok, hrun]
  refine hK _ _ (h _ _ ?_ ?_ ?_ ?_ ?_)
  · exact grownCap_ge w l.length 0 e
  · intro j u hu
    refine ⟨_, rfl, ?_⟩
    rw [add_plain, Nat.zero_add]
    have hj : j < l.length := by
      have := (List.getElem?_eq_some_iff.1 hu).1
      rwa [bvs_length] at this
    refine (World.cell?_alloc_mark w.drew _ _ _ j).trans ?_
    rw [bytesRow_at (strOf l) _ j (by simpa [strOf] using hj), ← hu, bvs_at l hj]
    simp [strOf]
  · intro j hj
    have hb : (w.drew.alloc (.cells (bytesRow (strOf l) (grownCap w (strOf l).size 0 e)) e ((bytesRow (strOf l) (grownCap w (strOf l).size 0 e)).size, (bytesRow (strOf l) (grownCap w (strOf l).size 0 e)).size + 1))).heap[w.heap.size]? = some _ := heap_alloc_new w.drew _
    have hz : l.length ≤ (bytesRow (strOf l) (grownCap w (strOf l).size 0 e)).size := by
      simp only [bytesRow, Array.size_append, Array.size_map]
      exact Nat.le_add_right _ _
    simp only [World.frozen?, hb]
    simp
    omega
  · exact (Keeps.refl _ w).drew.alloc _
  · show w.heap.size < (w.drew.alloc _).heap.size
    simp

theorem own_walk (A : Option Addr) (len cap : Nat) (zs : List Int) (x : Int) (w : World) (hr : IsRowU .u8 w A len cap zs) (hxw : (Lit.int .u8 x).wf = true) :
    Calls Try.prog 3 #[.slice A len cap, .int .u8 x] w fun e w' => e = .returned (.bool true) ∧ Below w.heap.size w w' := by
  obtain ⟨bs, rfl, hs, hlc, hcm⟩ := hr.src
  have hx := bounds_u8 hxw
  have AW := Lib.hid (awake_any w)
  clear hr hxw
  by_cases hz : bs.length = 0
  · have hz' : ((bs.length : Int) == 0) = true := by rw [hz]; rfl
    have HZ := Lib.hid hz
    clear hz
    go_enter Try.func3, Try.ntmps3
    go_wp2_with fail
    refine AW.out.mono ?_
    rintro e w1 ⟨rfl, k1⟩
    go_wp2
    go_ret
    exact ⟨rfl, k1⟩
  · have hz' : ((bs.length : Int) == 0) = false := by simpa using hz
    have hpos : 0 < bs.length := by omega
    clear hz
    by_cases hlen : bs.length ≤ 100
    · by_cases hx0 : x = 0
      · subst hx0
        go_enter Try.func3, Try.ntmps3
        go_wp2_with fail
        refine AW.out.mono ?_
        rintro e w1 ⟨rfl, k1⟩
        go_wp2
        go_ret
        exact ⟨rfl, k1⟩
      · have hxb : (x == 0) = false := by simpa using hx0
        clear hx0
        go_enter Try.func3, Try.ntmps3
        go_wp2_with fail
        refine AW.out.mono ?_
        rintro e w1 ⟨rfl, k1⟩
        have hcb := run_string_src (P := Try.prog) w1 22 9 5 Try.underlying22 Try.underlying5 Try.underlying9 A bs cap (hs.later k1)
        have HS := Lib.hid hs
        clear hs
        go_wp2_with (refine wpList_bytes_str (by rfl) 9 22 5 (.tmp 28) (by rfl) bs (by rfl) Try.underlying9 Try.underlying22 Try.underlying5 ?_; intro ci w2 hci hsi hfi ki hgi; clear hcb)
        have hgw : w.heap.size ≤ w1.heap.size := k1.size
        have hk2 : Hid (Below w.heap.size w w2) := k1.trans (ki.below hgw (fun _ _ => id))
        generalize w1.heap.size = gi at *
        clear ki k1
        have h2 : w.heap.size ≤ w2.heap.size := by omega
        refine (newWriter_any _).mono ?_
        rintro e w3 ⟨rfl, hw3⟩
        have hwr := newWriter_wr w2
        have hs3 := hsi.alloc (.cells #[.slice none 0 0] 44)
        have hk3 : Keeps (fun _ => False) w2 (w2.alloc (.cells #[.slice none 0 0] 44)) := (Keeps.refl _ _).alloc _
        rw [hw3] at hwr hs3 hk3
        have HK3 := Lib.hid hk3
        obtain ⟨b, hb⟩ : ∃ b, w2.heap.size = b := ⟨_, rfl⟩
        have H23 : Hid (w2.heap.size < w3.heap.size) := by show _ < _; rw [← hw3]; simp
        rw [hb] at hwr hgi ⊢
        have HB := Lib.hid hb
        have hraw := wrRaw_any b none [] bs (some ⟨gi, 0, none⟩) ci w3 hwr hs3 (by simp; omega)
        rw [List.nil_append] at hraw
        have HRAW := Lib.hid hraw
        have HS3 := Lib.hid hs3
        have HF3 : Hid (w3.frozen? ⟨gi, 0, none⟩ = false) := (HK3.out.frozen (p := ⟨gi, 0, none⟩) (by simp only; omega) id).trans (hfi 0 hpos)
        have H3 : Hid (Below w.heap.size w w3) := hk2.out.trans (hk3.below h2 (fun _ _ => id))
        have hb3 : b < w3.heap.size := by have := H23.out; omega
        clear hw3 hs3 hk3 hb hraw hwr hsi hfi
        go_wp2_with fail
        refine HRAW.out.mono ?_
        rintro e w4 ⟨rfl, r, hw4, hr4, k4⟩
        have hrn : ∀ k, r = some k → gi < k ∧ w.heap.size ≤ k := by
          intro k hk
          rcases hr4 with h | ⟨q, hq, h⟩
          · rw [h] at hk; simp at hk
          · rw [h] at hk; injection hk with hk; omega
        have hkg : ¬ (gi = b ∨ (none : Option Nat) = some gi) := by
          rintro (h | h)
          · omega
          · simp at h
        have c0 := (HS3.out.keeps k4 (fun a ha _ => by injection ha with ha; subst ha; exact hkg)).at_ (bvs_at bs hpos)
        rw [add_plain] at c0
        have f0 := (k4.frozen (p := ⟨gi, 0, none⟩) (by simp only; omega) hkg).trans HF3.out
        have HW5 : Hid (∀ v, Wr (w4.setCell ⟨gi, 0, none⟩ v) b r bs) := fun v =>
          hw4.keeps ((Keeps.refl (fun k => k = gi) w4).setCell (p := ⟨gi, 0, none⟩) (fun _ => rfl) v) (by omega) (fun k hk e => by have := (hrn k hk).1; omega)
        have H5 : Hid (∀ v, Below w.heap.size w (w4.setCell ⟨gi, 0, none⟩ v)) := fun v =>
          (H3.out.trans (k4.below (by omega) (fun k hk h => by
            rcases h with h | h
            · omega
            · simp at h))).setCell (p := ⟨gi, 0, none⟩) hgw v
        have hrl := hw4.row_lt
        have h4 : w3.heap.size ≤ w4.heap.size := k4.size
        have HRN := Lib.hid hrn
        have HRL := Lib.hid hrl
        clear hr4 k4 hw4 HF3 HS3 HRAW H3 HK3 H23 hk2 hkg hrn hrl
        go_wp2_with fail
        refine (wrOut_any b r bs _ (HW5.out _) (by omega)).mono ?_
        rintro e w6 ⟨A6, c6, rfl, hown6, k6⟩
        have k6s := k6.size
        simp only [World.size_setCell] at k6s hown6
        have hw6 : Wr w6 b r bs := (HW5.out _).keeps k6 id (fun _ _ => id)
        have hb6 : Below w.heap.size w w6 := (H5.out _).trans (k6.below (by have := (H5.out (.int .u8 0)).size; simpa using this) (fun _ _ => id))
        obtain ⟨go, cap6, hv6, hg6, hg6'⟩ := hown6.form hpos
        injection hv6 with q1 q2 q3
        subst q1 q3
        have s6 := run_string_src (P := Try.prog) w6 22 9 5 Try.underlying22 Try.underlying5 Try.underlying9 (some ⟨go, 0, none⟩) bs c6 (Src.of_own hown6)
        have a6 := run_string_src (P := Try.prog) w6 22 9 5 Try.underlying22 Try.underlying5 Try.underlying9 A bs cap (HS.out.later hb6)
        have HNR := Lib.hid (newReader_any (some ⟨go, 0, none⟩) c6 bs w6 (Src.of_own hown6) (by omega))
        have HO6 := Lib.hid hown6
        have HW6 := Lib.hid hw6
        have HB6 := Lib.hid hb6
        clear k6 hw6 hb6 HW5 H5 hown6 c0 f0 q2
        go_wp2_with fail
        refine HNR.out.mono ?_
        rintro e w7 ⟨rb, r2, rfl, hrb, hr2, hr7, k7⟩
        have hown7 := k7.owns HO6.out (fun _ _ => id)
        have c0 := hown7.cells (g := go) rfl 0 _ (bvs_at bs hpos)
        rw [add_plain] at c0
        have f0 : w7.frozen? ⟨go, 0, none⟩ = false := by
          rcases hown7.2 with ⟨h, _⟩ | ⟨g', cap', cur, h, _, hh, _⟩
          · simp at h
          · injection h with h
            injection h with h
            injection h with h
            subst h
            exact frozen0 hh 0
        have hrbl := hr7.lt
        have HW8 : Hid (∀ v, Wr (w7.setCell ⟨go, 0, none⟩ v) b r bs) := fun v =>
          (HW6.out.keeps k7 id (fun _ _ => id)).keeps ((Keeps.refl (fun k => k = go) w7).setCell (p := ⟨go, 0, none⟩) (fun _ => rfl) v) (by omega) (fun k hk e => by have := (HRL.out k hk).1; omega)
        have HR8 : Hid (∀ v, Rd (w7.setCell ⟨go, 0, none⟩ v) rb r2 (bs, 0)) := fun v =>
          hr7.keeps ((Keeps.refl (fun k => k = go) w7).setCell (p := ⟨go, 0, none⟩) (fun _ => rfl) v) (by omega) (fun k hk e => by have := hr2 k hk; omega)
        have hw6s : w.heap.size ≤ w6.heap.size := HB6.out.size
        have H8 : Hid (∀ v, Below w.heap.size w (w7.setCell ⟨go, 0, none⟩ v)) := fun v =>
          (HB6.out.trans (k7.below hw6s (fun _ _ => id))).setCell (p := ⟨go, 0, none⟩) (by simp only; omega) v
        have k7s := k7.size
        clear hown7 HO6 HW6 HB6 HNR k7 hr7 s6 a6
        go_wp2_with fail
        refine (wrOut_any b r bs _ (HW8.out _) (by omega)).mono ?_
        rintro e w9 ⟨A9, c9, rfl, hown9, k9⟩
        have hr9 : Rd w9 rb r2 (bs, 0) := (HR8.out _).keeps k9 id (fun _ _ => id)
        have hb9 : Below w.heap.size w w9 := (H8.out _).trans (k9.below (by have := (H8.out (.int .u8 0)).size; simpa using this) (fun _ _ => id))
        have hraw9 : rraw (bs.length : Int) (bs, 0) = (([], 0), bs) := by
          unfold rraw
          rw [if_neg (by omega)]
          exact tk_all bs _ (by simp)
        have HRW := Lib.hid hraw9
        have HO9 := Lib.hid hown9
        have HB9 := Lib.hid hb9
        clear k9 HW8 HR8 H8 hown9 hb9 hraw9 c0 f0
        go_wp2_with fail
        refine (rdRaw_any rb r2 _ (bs, 0) _ hr9 (by show bs.length ≤ _; omega)).mono ?_
        rintro e w10 ⟨A10, c10, rfl, hown10, hr10, k10⟩
        rw [HRW.out] at hown10 ⊢
        have hb10 : Below w.heap.size w w10 := HB9.out.trans (k10.belowB HB9.out.size (by omega))
        have p10 := run_string_src (P := Try.prog) w10 22 9 5 Try.underlying22 Try.underlying5 Try.underlying9 A9 bs c9 (Src.only HO9.out (by simp only [World.size_setCell]; omega) k10)
        have q10 := run_string_src (P := Try.prog) w10 22 9 5 Try.underlying22 Try.underlying5 Try.underlying9 A10 bs c10 (Src.of_own hown10)
        have a10 := run_string_src (P := Try.prog) w10 22 9 5 Try.underlying22 Try.underlying5 Try.underlying9 A bs cap (HS.out.later hb10)
        clear hr9 hr10 hown10 k10
        go_wp2
        go_ret
        exact ⟨rfl, hb10⟩
    · go_enter Try.func3, Try.ntmps3
      go_wp2_with fail
      refine AW.out.mono ?_
      rintro e w1 ⟨rfl, k1⟩
      go_wp2
      go_ret
      exact ⟨rfl, k1⟩
end Go.Proofs.Ytgbdedkbkagndab
