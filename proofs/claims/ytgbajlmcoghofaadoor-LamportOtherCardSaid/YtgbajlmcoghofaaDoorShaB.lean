/-
  The numbers that are made of a block (sha.spread).
-/
import Derived.Test.YtgbajlmcoghofaaDoorShaA
import Derived.Deep.RegionLaw
import Derived.Laws.CopyOwn
import Derived.Deep.DrawnRows
import Derived.Deep.RegionHeld3
import Derived.Deep.WholeRow
import Derived.Deep.Light
import Derived.IntWalk
namespace Go.Proofs.YtgbajlmcoghofaaDoor
open Go.RowKit
set_option linter.unusedVariables false

/-- Block g holds just xs. -/
def Row (w : World) (g : Nat) (t : TypeId) (xs : List Value) : Prop := w.heap[g]? = some (.cells xs.toArray t (0, 0))
section
variable {w w' : World} {g : Nat} {t : TypeId} {xs : List Value}
theorem Row.lt (h : Row w g t xs) : g < w.heap.size := (Array.getElem?_eq_some_iff.1 h).1
theorem Row.cell (h : Row w g t xs) (i : Nat) : w.cell? ⟨g, i, none⟩ = xs[i]? := by
  rw [cell_of_row w g i xs.toArray t (0, 0) h]; simp
theorem Row.frozen (h : Row w g t xs) (i : Nat) : w.frozen? ⟨g, i, none⟩ = false := by
  unfold Row at h; simp [World.frozen?, h]
theorem Row.keeps {S : Nat → Prop} (h : Row w g t xs) (hk : Keeps S w w') (hs : ¬ S g) : Row w' g t xs := (hk.block g h.lt hs).trans h
theorem Row.set (h : Row w g t xs) (i : Nat) (u : Value) : Row (w.setCell ⟨g, i, none⟩ u) g t (xs.set i u) := by
  unfold Row at h ⊢
  simp [World.setCell, Array.getElem?_modify, h]
theorem Row.set_other (h : Row w g t xs) {p : Addr} (hp : g ≠ p.block) (u : Value) : Row (w.setCell p u) g t xs := (Below.heap_setCell _ _ _ _ hp).trans h
theorem Row.drewN (h : Row w g t xs) (n : Nat) : Row (w.drewN n) g t xs := h
theorem Row.drew (h : Row w g t xs) : Row w.drew g t xs := h
end
/-- What a cell holds, by a name that no walk lays open. -/
def cellOr (w : World) (a : Addr) : Value := (w.cell? a).getD undef
theorem cellOr_of {w : World} {a : Addr} {v : Value} (h : w.cell? a = some v) : w.cell? a = some (cellOr w a) := by unfold cellOr; rw [h]; rfl
theorem cellOr_set {w : World} {a : Addr} {v u : Value} (h : w.cell? a = some v) : (w.setCell a u).cell? a = some (cellOr (w.setCell a u) a) := cellOr_of (v := u) (by apply World.cell?_setCell_same; exact h)
theorem keep_at {w : World} {a q : Addr} {u v : Value} (h : w.cell? q = some v) (hne : a ≠ q) : (w.setCell a u).cell? q = some v := by rw [← h]; apply World.cell?_setCell_other; exact hne
theorem keep_atD {w : World} {n : Nat} {a q : Addr} {u v : Value} (h : w.cell? q = some v) (hne : a ≠ q) : ((w.drewN n).setCell a u).cell? q = some v := keep_at (w := w.drewN n) h hne
theorem cellOr_setD {w : World} {n : Nat} {a : Addr} {v u : Value} (h : w.cell? a = some v) : ((w.drewN n).setCell a u).cell? a = some (cellOr ((w.drewN n).setCell a u) a) := cellOr_set (w := w.drewN n) (v := v) h
theorem frozen_setD {w : World} {n : Nat} {a b : Addr} {u : Value} (h : w.frozen? b = false) : ((w.drewN n).setCell a u).frozen? b = false := by rw [World.frozen?_setCell]; exact h
theorem off_ne {g i j : Nat} (h : i ≠ j) : (⟨g, i, none⟩ : Addr) ≠ ⟨g, j, none⟩ := fun e => h (by injection e)
theorem wvs_get (l : List UInt32) (i : Nat) : (wvs l)[i]? = l[i]?.map wv := by simp [wvs]
theorem wvs_length (l : List UInt32) : (wvs l).length = l.length := by simp [wvs]
theorem wvs_at (l : List UInt32) {i : Nat} (h : i < l.length) : (wvs l)[i]? = some (.int .u32 (wi l[i])) := by rw [wvs_get, List.getElem?_eq_getElem h]; rfl
theorem wvs_set (l : List UInt32) (i : Nat) (x : UInt32) : (wvs l).set i (.int .u32 (wi x)) = wvs (l.set i x) := by
  unfold wvs
  rw [List.map_set]
  rfl
theorem wvs_one (l : List UInt32) : ∀ u ∈ wvs l, u.oneCell' = true := by
  intro u hu
  obtain ⟨c, _, rfl⟩ := List.mem_map.1 hu
  rfl

/-! ### The first numbers -/
theorem first_get (n : Nat) (l : List UInt8) (j : Nat) (h : j < n) : (Sh.firstN n l)[j]? = some (Sh.wd ((l.drop (4 * j)).take 4)) := by
  unfold Sh.firstN
  rw [List.getElem?_map, List.getElem?_range h]
  rfl
/-- One byte more: the number that it belongs to is moved up. -/
theorem first_snoc (n : Nat) (l : List UInt8) (c : UInt8) (h : l.length / 4 < n) :
    Sh.firstN n (l ++ [c]) = (Sh.firstN n l).set (l.length / 4) ((Sh.wd ((l.drop (4 * (l.length / 4))).take 4) <<< 8) ||| c.toUInt32) := by
  apply List.ext_getElem?
  intro j
  by_cases hj : j < n
  · rw [first_get n _ j hj]
    by_cases e : l.length / 4 = j
    · rw [List.getElem?_set, if_pos e, if_pos (by rw [Sh.firstN_length]; exact h), ← e]
      rw [List.drop_append_of_le_length (by omega)]
      have h1 : (l.drop (4 * (l.length / 4))).length < 4 := by rw [List.length_drop]; omega
      rw [List.take_of_length_le (by rw [List.length_append, List.length_singleton]; omega), List.take_of_length_le (by omega)]
      unfold Sh.wd
      rw [List.foldl_append]
      rfl
    · rw [List.getElem?_set_ne e, first_get n _ j hj]
      rcases Nat.lt_or_ge j (l.length / 4) with h2 | h2
      · rw [List.drop_append_of_le_length (by omega), List.take_append_of_le_length (by rw [List.length_drop]; omega)]
      · rw [List.drop_of_length_le (by rw [List.length_append, List.length_singleton]; omega), List.drop_of_length_le (by omega)]
  · rw [List.getElem?_eq_none (by rw [Sh.firstN_length]; omega), List.getElem?_eq_none (by rw [List.length_set, Sh.firstN_length]; omega)]
theorem first_take (n : Nat) (l : List UInt8) (k : Nat) (hk : k < l.length) (h : k / 4 < n) :
    Sh.firstN n (l.take (k + 1)) = (Sh.firstN n (l.take k)).set (k / 4) ((Sh.wd (((l.take k).drop (4 * (k / 4))).take 4) <<< 8) ||| l[k].toUInt32) := by
  have hl : (l.take k).length = k := by rw [List.length_take]; omega
  rw [List.take_succ_eq_append_getElem hk]
  have := first_snoc n (l.take k) l[k] (by rw [hl]; exact h)
  rw [hl] at this
  exact this
theorem first_zero (n : Nat) : Sh.firstN n [] = List.replicate n 0 := by
  apply List.ext_getElem?
  intro j
  by_cases hj : j < n
  · rw [first_get n _ j hj, List.getElem?_replicate, if_pos hj]
    simp [Sh.wd]
  · rw [List.getElem?_eq_none (by rw [Sh.firstN_length]; omega), List.getElem?_eq_none (by simp; omega)]
theorem first_pad (l : List UInt8) (h : l.length = 64) : Sh.firstN 64 l = Sh.firstN 16 l ++ List.replicate 48 0 := by
  apply List.ext_getElem?
  intro j
  by_cases hj : j < 16
  · rw [first_get 64 _ j (by omega), List.getElem?_append_left (by rw [Sh.firstN_length]; exact hj), first_get 16 _ j hj]
  · rw [List.getElem?_append_right (by rw [Sh.firstN_length]; omega), Sh.firstN_length, List.getElem?_replicate]
    by_cases h64 : j < 64
    · rw [first_get 64 _ j h64, if_pos (by omega), List.drop_of_length_le (by omega)]
      rfl
    · rw [List.getElem?_eq_none (by rw [Sh.firstN_length]; omega), if_neg (by omega)]
/-- The numbers when k more stand, noughts behind. -/
def upTo (l : List UInt8) (k : Nat) : List UInt32 := Sh.ext k (Sh.firstN 16 l) ++ List.replicate (48 - k) 0
theorem ext16 (l : List UInt8) (k : Nat) : (Sh.ext k (Sh.firstN 16 l)).length = 16 + k := by rw [Sh.ext_length, Sh.firstN_length]
theorem upTo_length (l : List UInt8) (k : Nat) (h : k ≤ 48) : (upTo l k).length = 64 := by unfold upTo; rw [List.length_append, ext16, List.length_replicate]; omega
theorem upTo_get (l : List UInt8) (k j : Nat) (h : j < 16 + k) : (upTo l k)[j]? = some ((Sh.ext k (Sh.firstN 16 l)).getD j 0) := by
  unfold upTo
  rw [List.getElem?_append_left (by rw [ext16]; exact h), List.getD, List.getElem?_eq_getElem (by rw [ext16]; exact h)]
  rfl
theorem upTo_succ (l : List UInt8) (k : Nat) (h : k < 48) : upTo l (k + 1) = (upTo l k).set (16 + k) (Sh.nextW (Sh.ext k (Sh.firstN 16 l))) := by
  unfold upTo
  have e : (48 - k) = (48 - (k + 1)) + 1 := by omega
  rw [List.set_append, if_neg (by rw [ext16]; omega), ext16, Nat.sub_self, e, List.replicate_succ, List.set_cons_zero]
  show (Sh.ext k _ ++ [_]) ++ _ = _
  rw [List.append_assoc]
  rfl
theorem upTo_here (l : List UInt8) (k : Nat) (h : k < 48) : (upTo l k)[16 + k]? = some 0 := by
  unfold upTo
  rw [List.getElem?_append_right (by rw [ext16]; exact Nat.le_refl _), ext16, Nat.sub_self, List.getElem?_replicate, if_pos (by omega)]
theorem upTo_last (l : List UInt8) : upTo l 48 = Sh.words l := by unfold upTo Sh.words; simp

theorem size_w64 : (Tryd.prog.info? 78).map (·.size) = some 64 := by kernel_rfl

/-- One byte more, as the walk spells it. -/
theorem wi_byte (x : UInt32) (c : UInt8) : bits .or .u32 (wi x * 256 % 4294967296) (c.toNat : Int) = wi ((x <<< 8) ||| c.toUInt32) := by
  have h1 := wi_shl x 8 (by omega)
  rw [show ((2 : Int) ^ 8) = 256 from rfl] at h1
  rw [h1]
  have h2 : (c.toNat : Int) = wi c.toUInt32 := by unfold wi; simp
  rw [h2, wi_or]
  rfl
theorem blk_cell {w wr : World} {b o : Nat} {blk : List UInt8} (hl : blk.length = 64) (hc : ∀ i, i < 64 → w.cell? ⟨b, o + i, none⟩ = (bvs blk)[i]?) (hb : b < w.heap.size) (hk : Keeps (fun _ => False) w wr) (i : Nat) (h : i < 64) :
    wr.cell? ⟨b, o + i, none⟩ = some (.int .u8 (blk[i].toNat : Int)) := (hk.cell (p := ⟨b, o + i, none⟩) hb (by simp)).trans ((hc i h).trans (bvs_at blk (by omega)))
set_option maxRecDepth 100000 in
set_option maxHeartbeats 4000000 in
theorem spread_any (b o : Nat) (blk : List UInt8) (w : World) (hl : blk.length = 64) (hc : ∀ i, i < 64 → w.cell? ⟨b, o + i, none⟩ = (bvs blk)[i]?) (hb : b < w.heap.size) :
    Calls Tryd.prog 42 #[.pointer (some ⟨b, o, none⟩)] w fun e w' => e = .returned (.agg (wvs (Sh.words blk)).toArray) ∧ Keeps (fun _ => False) w w' := by
  have HC := Lib.hid hc
  have HL := Lib.hid hl
  clear hc hl
  go_enter Tryd.func42, Tryd.ntmps42
  go_wp2_with fail
  obtain ⟨W, hW⟩ : ∃ W, (w.alloc (.cells (wvs (List.replicate 64 0)).toArray 78)).alloc (.cells (wvs (List.replicate 64 0)).toArray 78) = W := ⟨_, rfl⟩
  have z0 : Row W w.heap.size 78 (wvs (List.replicate 64 0)) := by rw [← hW]; exact heap_alloc2_old w _ _
  have z1 : Row W (w.heap.size + 1) 78 (wvs (List.replicate 64 0)) := by rw [← hW]; exact heap_alloc2_new w _ _
  have kW : Keeps (fun _ => False) w W := by rw [← hW]; exact ((Keeps.refl _ _).alloc _).alloc _
  change Code.wp _ _ _ _ ((w.alloc (.cells (wvs (List.replicate 64 0)).toArray 78)).alloc (.cells (wvs (List.replicate 64 0)).toArray 78))
  rw [hW]
  clear hW
  go_loopw [10] (fun i wr => ∃ k : Nat, k ≤ 64 ∧ i = .int .i64 k ∧ Hid (Row wr w.heap.size 78 (wvs (List.replicate 64 0))) ∧ Hid (Row wr (w.heap.size + 1) 78 (wvs (Sh.firstN 64 (blk.take k)))) ∧ Keeps (fun _ => False) w wr) (fun i _ => 64 - (intOf i).toNat)
  case atStart => exact ⟨0, by omega, rfl, Lib.hid z0, Lib.hid (by rw [List.take_zero, first_zero]; exact z1), kW⟩
  case round =>
    obtain ⟨k, hk, rfl, H0, H1, hkp⟩ := hrel
    clear z0 z1 kW
    by_cases hlt : k < 64
    · go_wp2
      have hq : k / 4 < 64 := by omega
      have hkl : k < blk.length := by rw [HL.out]; exact hlt
      have hcell := blk_cell HL.out HC.out hb hkp k hlt
      have hstep := first_take 64 blk k hkl hq
      generalize blk[k] = c at *
      have hx : (Sh.firstN 64 (blk.take k))[k / 4]? = some (Sh.wd (((blk.take k).drop (4 * (k / 4))).take 4)) := first_get 64 _ _ hq
      generalize Sh.wd (((blk.take k).drop (4 * (k / 4))).take 4) = x at *
      have hold : wr.cell? ⟨w.heap.size + 1, k / 4, none⟩ = some (.int .u32 (wi x)) := by
        rw [H1.out.cell, wvs_get, hx]; rfl
      have hfr := H1.out.frozen (k / 4)
      have HS := Lib.hid hstep
      have hby := wi_byte x c
      have c0 : (c.toNat : Int) < 256 := by have := c.toNat_lt; omega
      have x0 := wi_nonneg x
      have x1 := wi_lt x
      have HB := Lib.hid hby
      clear hstep hx hby
      go_quiet (fail)
      go_wp2
      go_roundw
      case rel =>
        go_light
        refine ⟨k + 1, by omega, by go_num, Lib.hid ((H0.out.drewN nq).set_other (by simp) _), Lib.hid ?_, (hkp.drewN nq).setCell (fun h => absurd h (by simp)) _⟩
        have h := (H1.out.drewN nq).set (k / 4) (.int .u32 (bits .or .u32 (wi x * 256 % 4294967296) (c.toNat : Int)))
        rw [HS.out, ← wvs_set, ← HB.out]
        exact h
      case measure => simp [intOf]; omega
    · rw [List.take_of_length_le (by rw [HL.out]; omega), first_pad blk HL.out] at H1
      clear HL
      go_wp2
      clear hlt hk
      go_loopw [6] (fun i wr => ∃ j : Nat, 16 ≤ j ∧ j ≤ 64 ∧ i = .int .i64 j ∧ Hid (Row wr w.heap.size 78 (wvs (List.replicate 64 0))) ∧ Hid (Row wr (w.heap.size + 1) 78 (wvs (upTo blk (j - 16)))) ∧ Keeps (fun _ => False) w wr) (fun i _ => 64 - (intOf i).toNat)
      case atStart => exact ⟨16, by omega, by omega, rfl, H0, H1, hkp⟩
      case round =>
        clear H0 H1 hkp
        obtain ⟨j, hj, hj2, rfl, H0, H1, hkp⟩ := hrel
        by_cases hlt : j < 64
        · go_wp2
          have c0 := H1.out.cell (j - 16)
          have c1 := H1.out.cell (j - 7)
          have c2 := H1.out.cell (j - 15)
          have c3 := H1.out.cell (j - 2)
          have e0 := upTo_get blk (j - 16) (j - 16) (by omega)
          have e1 := upTo_get blk (j - 16) (j - 7) (by omega)
          have e2 := upTo_get blk (j - 16) (j - 15) (by omega)
          have e3 := upTo_get blk (j - 16) (j - 2) (by omega)
          rw [wvs_get, e0] at c0
          rw [wvs_get, e1] at c1
          rw [wvs_get, e2] at c2
          rw [wvs_get, e3] at c3
          have hn := upTo_succ blk (j - 16) (by omega)
          have ej : 16 + (j - 16) = j := by omega
          unfold Sh.nextW at hn
          rw [ext16, ej] at hn
          have cj := H1.out.cell j
          have e4 := upTo_here blk (j - 16) (by omega)
          rw [ej] at e4
          rw [wvs_get, e4] at cj
          replace cj : wr.cell? ⟨w.heap.size + 1, j, none⟩ = some (cellOr wr ⟨w.heap.size + 1, j, none⟩) := cellOr_of cj
          clear e0 e1 e2 e3 e4 ej
          generalize (Sh.ext (j - 16) (Sh.firstN 16 blk)).getD (j - 16) 0 = x0 at *
          generalize (Sh.ext (j - 16) (Sh.firstN 16 blk)).getD (j - 7) 0 = x1 at *
          generalize (Sh.ext (j - 16) (Sh.firstN 16 blk)).getD (j - 15) 0 = x2 at *
          generalize (Sh.ext (j - 16) (Sh.firstN 16 blk)).getD (j - 2) 0 = x3 at *
          replace c0 : wr.cell? ⟨w.heap.size + 1, j - 16, none⟩ = some (.int .u32 (wi x0)) := c0
          replace c1 : wr.cell? ⟨w.heap.size + 1, j - 7, none⟩ = some (.int .u32 (wi x1)) := c1
          replace c2 : wr.cell? ⟨w.heap.size + 1, j - 15, none⟩ = some (.int .u32 (wi x2)) := c2
          replace c3 : wr.cell? ⟨w.heap.size + 1, j - 2, none⟩ = some (.int .u32 (wi x3)) := c3
          have HN := Lib.hid hn
          have hfr := H1.out.frozen j
          clear hn
          go_quiet (fail)
          go_wp2
          have cj1 : wr.cell? ⟨w.heap.size + 1, j, none⟩ = some (cellOr (wr.drewN (nq + 1)) ⟨w.heap.size + 1, j, none⟩) := cj
          clear cj
          have s16 : IntKind.i64.wrap ((j : Int) - 16) = (j : Int) - 16 := IntWalk.i64_in _ (by omega)
          have s7 : IntKind.i64.wrap ((j : Int) - 7) = (j : Int) - 7 := IntWalk.i64_in _ (by omega)
          have l16 : (16 : Int) ≤ j := by omega
          have l7 : (7 : Int) ≤ j := by omega
          have l0 : (0 : Int) ≤ (j : Int) - 16 := by omega
          have l1 : (0 : Int) ≤ (j : Int) - 7 := by omega
          have g16 : (j : Int) - 16 < 64 := by omega
          have g7 : (j : Int) - 7 < 64 := by omega
          have gj : (j : Int) < 64 := by omega
          have t16 : ((j : Int) - 16).toNat = j - 16 := by omega
          have t7 : ((j : Int) - 7).toNat = j - 7 := by omega
          have rx := wi_xor
          have ra := wi_add
          go_region_held3 (fun w' => w'.cell? ⟨w.heap.size + 1, j - 16, none⟩ = some (.int .u32 (wi x0)) ∧ w'.cell? ⟨w.heap.size + 1, j - 7, none⟩ = some (.int .u32 (wi x1)) ∧ w'.cell? ⟨w.heap.size + 1, j, none⟩ = some (cellOr w' ⟨w.heap.size + 1, j, none⟩) ∧ w'.frozen? ⟨w.heap.size + 1, j, none⟩ = false) (first | exact ⟨keep_atD c0 (off_ne (by omega)), keep_atD c1 (off_ne (by omega)), cellOr_setD cj1, frozen_setD hfr⟩ | go_keep)
            (first | (go_at_call 43; refine (turn_int _ _ _ (by decide) (by decide)).mono ?_; rintro e w1 ⟨rfl, rfl⟩))
          clear s16 s7 l16 l7 l0 l1 g16 g7 t16 t7 rx ra c0 c1 c2 c3 cj1
          go_wp2
          go_roundw
          case rel =>
            go_light
            have hv : ((wi (x0 + x1) + bits .xor .u32 (wi (Sh.rr x2 7 ^^^ Sh.rr x2 18)) (wi x2 / (8 : Int))) % 4294967296 + bits .xor .u32 (wi (Sh.rr x3 17 ^^^ Sh.rr x3 19)) (wi x3 / (1024 : Int))) % 4294967296 = wi (x0 + x1 + Sh.ssig0 x2 + Sh.ssig1 x3) := by
              have r3 : wi x2 / (8 : Int) = wi (x2 >>> 3) := wi_shr x2 3 (by omega)
              have r10 : wi x3 / (1024 : Int) = wi (x3 >>> 10) := wi_shr x3 10 (by omega)
              rw [r3, r10, wi_xor, wi_xor, wi_add', wi_add']
              rfl
            refine ⟨j + 1, by omega, by omega, by go_num, Lib.hid ((H0.out.drewN _).set_other (by simp) _), Lib.hid ?_, (hkp.drewN _).setCell (fun h => absurd h (by simp)) _⟩
            rw [hv]
            have h := (H1.out.drewN (nq + 1)).set j (.int .u32 (wi (x0 + x1 + Sh.ssig0 x2 + Sh.ssig1 x3)))
            rw [wvs_set, ← HN.out] at h
            rw [show j + 1 - 16 = j - 16 + 1 by omega]
            exact h
          case measure => simp [intOf]; omega
        · obtain rfl : j = 64 := by omega
          rw [show 64 - 16 = 48 from rfl, upTo_last] at H1
          have hsz : (Tryd.prog.info? 78).map (·.size) = some (wvs (Sh.words blk)).toArray.size := by rw [List.size_toArray, wvs_length, Sh.words_length]; exact size_w64
          have hz : (wvs (List.replicate 64 0)).toArray.size = (wvs (Sh.words blk)).toArray.size := by rw [List.size_toArray, wvs_length, List.size_toArray, wvs_length, Sh.words_length, List.length_replicate]
          have h1 : (wvs (Sh.words blk)).toArray.all (·.oneCell') = true := by
            rw [Array.all_eq_true_iff_forall_mem]
            intro v hv
            exact wvs_one _ v (by simpa using hv)
          have HSZ := Lib.hid hsz
          have HZ := Lib.hid hz
          have HONE := Lib.hid h1
          clear hsz hz h1 hlt hj hj2
          obtain ⟨R, hR⟩ : ∃ R, (wvs (Sh.words blk)).toArray = R := ⟨_, rfl⟩
          rw [hR] at HSZ HZ HONE
          have H2 : Hid (wr.heap[w.heap.size + 1]? = some (.cells R 78 (0, 0))) := by rw [← hR]; exact H1
          have HR := Lib.hid hR
          clear hR H1
          go_wp2_with (first
            | (refine wpList_load_row rfl 78 _ rfl (w.heap.size + 1) rfl 78 R (0, 0) _ H2.out Tryd.underlying78 rfl HSZ.out ?_)
            | (refine wpList_store_row rfl 78 _ _ rfl w.heap.size R rfl rfl 78 (wvs (List.replicate 64 0)).toArray H0.out HSZ.out HZ.out HONE.out ?_))
          refine bodyPost_ret (results_cell_row rfl _ _ w.heap.size 78 R (0, 0) _ rfl (setRow_heap _ _ _ _ _ _ H0.out) Tryd.underlying78 rfl HSZ.out) rfl ?_
          exact ⟨by rw [HR.out], hkp.trans' (Keeps.setRow w.heap.size R) (fun i hi h => by omega)⟩
end Go.Proofs.YtgbajlmcoghofaaDoor
