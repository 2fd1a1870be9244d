/-
  What one goes down by (clash.steps), turned (slices.Reverse). WRITTEN BY wip/gen/mkcls.py.
-/
import Derived.Test.YtjblnjeloimbgaaDoorClD
namespace Go.Proofs.YtjblnjeloimbgaaDoor
open Go.RowKit Go.BigFrame
set_option linter.unusedVariables false

def bls (l : List Bool) : List Value := l.map Value.bool
theorem bls_length (l : List Bool) : (bls l).length = l.length := by simp [bls]
theorem bls_snoc (l : List Bool) (b : Bool) : bls (l ++ [b]) = bls l ++ bls [b] := by simp [bls]
theorem bls_one (l : List Bool) : ∀ u ∈ bls l, u.oneCell' = true := by
  intro u hu
  obtain ⟨c, _, rfl⟩ := List.mem_map.1 hu
  rfl
theorem bls_get (l : List Bool) (i : Nat) : (bls l)[i]? = l[i]?.map Value.bool := by simp [bls]
theorem info_bool : (Tryd.prog.info? 4).map (fun i => (i.zero, i.size, i.bytes)) = some (some (.bool false), 1, 1) := by kernel_rfl
theorem one_any (n i : Nat) (w : World) (hi : i < n) (hn : n ≤ 18446744073709551615) : Calls Tryd.prog 31 #[.int .u64 (n : Int), .int .u64 (i : Int)] w fun e w' => e = .returned (.bool (Cl.one n i)) ∧ w' = w := by
  have h : Cl.one n i = ((n : Int) == 1) := by
    unfold Cl.one
    rw [Bool.eq_iff_iff]
    simp
    omega
  rw [h]
  clear h
  go_enter Tryd.func31, Tryd.ntmps31
  go_wp2
  go_ret
  exact ⟨rfl, rfl⟩
theorem last_any (n i : Nat) (w : World) (hi : i < n) (hn : n ≤ 18446744073709551615) : Calls Tryd.prog 37 #[.int .u64 (n : Int), .int .u64 (i : Int)] w fun e w' => e = .returned (.bool (Cl.last n i)) ∧ w' = w := by
  have h : Cl.last n i = ((i : Int) == ((n : Int) - 1)) := by
    unfold Cl.last
    rw [Bool.eq_iff_iff]
    simp
    omega
  have h1 : (1 : Int) ≤ n := by omega
  have h2 : (n : Int) ≤ 18446744073709551615 := by omega
  rw [h]
  clear h
  go_enter Tryd.func37, Tryd.ntmps37
  go_wp2
  go_ret
  exact ⟨rfl, rfl⟩
/-- What stands at place k when i at either end are exchanged. -/
def part (l : List Bool) (i k : Nat) : Bool := if k < i ∨ l.length ≤ k + i then l.getD (l.length - 1 - k) false else l.getD k false
set_option maxRecDepth 100000 in
set_option maxHeartbeats 2000000 in
theorem reverse_some (g : Nat) (c n : Nat) (l : List Bool) (w : World) (hl : l.length = n) (hn : n ≤ 1000) (hc : n ≤ c) (hcell : ∀ k, k < n → w.cell? ⟨g, k, none⟩ = some (.bool (l.getD k false)) ∧ w.frozen? ⟨g, k, none⟩ = false) :
    Calls Tryd.prog 40 #[.slice (some ⟨g, 0, none⟩) n c] w fun e w' => e = .returned (.tuple #[]) ∧ (∀ k, k < n → w'.cell? ⟨g, k, none⟩ = some (.bool (l.getD (n - 1 - k) false))) ∧ Keeps (fun k => k = g) w w' := by
  have HL := Lib.hid hl
  have HC := Lib.hid hcell
  have hsub : (-1 : Int) ≤ (n : Int) - 1 := by omega
  clear hcell hl
  go_enter Tryd.func40, Tryd.ntmps40
  go_wp2_with fail
  go_loopw [2, 3] (fun iv jv wr => ∃ i : Nat, 2 * i ≤ n + 1 ∧ iv = .int .i64 (i : Int) ∧ jv = .int .i64 ((n : Int) - 1 - i) ∧ Hid (∀ k, k < n → wr.cell? ⟨g, k, none⟩ = some (.bool (part l i k)) ∧ wr.frozen? ⟨g, k, none⟩ = false) ∧ Hid (Keeps (fun k => k = g) w wr)) (fun iv _ _ => n - (intOf iv).toNat)
  case atStart => exact ⟨0, by omega, rfl, by simp, Lib.hid (fun k hk => by
    have := HC.out k hk
    unfold part
    rw [if_neg (by rw [HL.out]; omega)]
    exact this), Lib.hid (Keeps.refl _ _)⟩
  case round =>
    obtain ⟨i, hi, rfl, rfl, HCC, HK⟩ := hrel
    by_cases hlt : 2 * i + 1 < n
    · obtain ⟨q, hq⟩ : ∃ q, n - 1 - i = q := ⟨_, rfl⟩
      have hqi : (n : Int) - 1 - i = (q : Int) := by omega
      rw [hqi]
      have hiq : (i : Int) < q := by omega
      have hqn : (q : Int) < n := by omega
      have hin : (i : Int) < n := by omega
      obtain ⟨x, hx⟩ : ∃ x, part l i i = x := ⟨_, rfl⟩
      obtain ⟨y, hy⟩ : ∃ y, part l i q = y := ⟨_, rfl⟩
      have ci := HCC.out i (by omega)
      have cq := HCC.out q (by omega)
      rw [hx] at ci
      rw [hy] at cq
      have blt := World.block_lt_of_cell? wr _ ci.1
      have HCI : Hid (∀ V, Later wr V → V.cell? ⟨g, i, none⟩ = some (.bool x)) := Lib.hid (fun V hV => (hV.out.cell blt id).trans ci.1)
      have HCJ : Hid (∀ V, Later wr V → V.cell? ⟨g, q, none⟩ = some (.bool y)) := Lib.hid (fun V hV => (hV.out.cell (p := ⟨g, q, none⟩) blt id).trans cq.1)
      have HFI : Hid (∀ V, Later wr V → V.frozen? ⟨g, i, none⟩ = false) := Lib.hid (fun V hV => (hV.out.frozen blt id).trans ci.2)
      have HFJ : Hid (∀ V, Later wr V → V.frozen? ⟨g, q, none⟩ = false) := Lib.hid (fun V hV => (hV.out.frozen (p := ⟨g, q, none⟩) blt id).trans cq.2)
      clear ci cq
      have HK1 : Hid (∀ V, Later wr V → Keeps (fun k => k = g) w ((V.setCell ⟨g, i, none⟩ (.bool y)).setCell ⟨g, q, none⟩ (.bool x))) := Lib.hid (fun V hV => ((HK.out.trans' hV.out (fun _ _ h => h.elim)).setCell (p := ⟨g, i, none⟩) (fun _ => rfl) _).setCell (p := ⟨g, q, none⟩) (fun _ => rfl) _)
      have HC1 : Hid (∀ V, Later wr V → ∀ k, k < n → ((V.setCell ⟨g, i, none⟩ (.bool y)).setCell ⟨g, q, none⟩ (.bool x)).cell? ⟨g, k, none⟩ = some (.bool (part l (i + 1) k)) ∧ ((V.setCell ⟨g, i, none⟩ (.bool y)).setCell ⟨g, q, none⟩ (.bool x)).frozen? ⟨g, k, none⟩ = false) := Lib.hid (fun V hV k hk => by
        have hkk := HCC.out k hk
        have hck : V.cell? ⟨g, k, none⟩ = some (.bool (part l i k)) := (hV.out.cell (p := ⟨g, k, none⟩) blt id).trans hkk.1
        have hfk : V.frozen? ⟨g, k, none⟩ = false := (hV.out.frozen (p := ⟨g, k, none⟩) blt id).trans hkk.2
        refine ⟨?_, by rw [World.frozen?_setCell, World.frozen?_setCell]; exact hfk⟩
        have hLn := HL.out
        by_cases hkq : k = q
        · subst hkq
          have e : part l (i + 1) k = x := by
            rw [← hx]
            unfold part
            rw [if_pos (by omega), if_neg (by omega)]
            congr 1
            omega
          rw [e]
          have h1 := keep_at (a := ⟨g, i, none⟩) (u := .bool y) hck (off_ne (by omega))
          apply World.cell?_setCell_same
          exact h1
        · by_cases hki : k = i
          · subst hki
            have e : part l (k + 1) k = y := by
              rw [← hy]
              unfold part
              rw [if_pos (by omega), if_neg (by omega)]
              congr 1
              omega
            rw [e]
            refine keep_at ?_ (off_ne (fun e => hkq e.symm))
            apply World.cell?_setCell_same
            exact hck
          · refine keep_at (keep_at ?_ (off_ne (fun e => hki e.symm))) (off_ne (fun e => hkq e.symm))
            rw [hck]
            congr 2
            unfold part
            by_cases h1 : k < i ∨ l.length ≤ k + i
            · rw [if_pos h1, if_pos (by omega)]
            · rw [if_neg h1, if_neg (by omega)])
      have c1 := HCC.out i (by omega)
      have c2 := HCC.out q (by omega)
      rw [hx] at c1
      rw [hy] at c2
      obtain ⟨c1, f1⟩ := c1
      obtain ⟨c2, f2⟩ := c2
      have HL0 : Hid (Later wr wr.drew) := Lib.hid ⟨(Keeps.refl _ _).drew⟩
      have HK2 := Lib.hid (HK1.out wr.drew HL0.out)
      have HC2 := Lib.hid (HC1.out wr.drew HL0.out)
      clear HK1 HC1 HCC HK HCI HCJ HFI HFJ blt HC hx hy
      go_wp2_with fail
      go_region
      go_wp2_with fail
      go_roundw
      case rel => exact ⟨i + 1, by omega, by go_num, by go_num, HC2, HK2⟩
      case measure => simp [intOf]; omega
    · have hle : (n : Int) - 1 - i ≤ i := by omega
      go_wp2_with fail
      go_end0
      refine ⟨rfl, fun k hk => ?_, HK.out⟩
      rw [(HCC.out k hk).1]
      congr 2
      have hLn := HL.out
      unfold part
      by_cases h1 : k < i ∨ l.length ≤ k + i
      · rw [if_pos h1, hLn]
      · rw [if_neg h1]
        congr 1
        omega
theorem reverse_any (base : Nat) (A : Option Addr) (c : Nat) (l : List Bool) (w : World) (hO : w.ownsRow base 4 1 (.slice A l.length c) l.length (bls l)) (hl : l.length ≤ 1000) :
    Calls Tryd.prog 40 #[.slice A l.length c] w fun e w' => e = .returned (.tuple #[]) ∧ Src w' A (bls l.reverse) ∧ Keeps (fun k => (Value.slice A l.length c).ownBlock = some k) w w' := by
  rcases hO.2 with ⟨h1, h2⟩ | ⟨g, cap, cur, h1, h2, h3, h4, h5, h6, h7⟩
  · injection h1 with h1 _ h3
    have e : l = [] := List.eq_nil_of_length_eq_zero h2
    subst e
    subst h1
    subst h3
    go_enter Tryd.func40, Tryd.ntmps40
    go_wp2_with fail
    go_loopw [2, 3] (fun iv jv wr => iv = .int .i64 0 ∧ jv = .int .i64 (-1) ∧ w = wr) (fun _ _ _ => 0)
    case atStart => exact ⟨rfl, rfl, rfl⟩
    case round =>
      obtain ⟨rfl, rfl, h⟩ := hrel
      obtain rfl : w = wr := h
      go_wp2_with fail
      go_end0
      exact ⟨rfl, fun j u hu => by simp [bls] at hu, Keeps.refl _ _⟩
  · injection h1 with h1 _ h1c
    subst h1
    subst h1c
    obtain ⟨n, hn⟩ : ∃ n, l.length = n := ⟨_, rfl⟩
    have hcell : ∀ k, k < n → w.cell? ⟨g, k, none⟩ = some (.bool (l.getD k false)) ∧ w.frozen? ⟨g, k, none⟩ = false := fun k hk => by
      have hcur : (bls l)[k]? = some (.bool (l.getD k false)) := by rw [bls_get, List.getD_eq_getElem?_getD, List.getElem?_eq_getElem (by omega)]; rfl
      have hc := hO.cells (g := g) rfl k _ hcur
      rw [add_plain, Nat.zero_add] at hc
      exact ⟨hc, by simp [World.frozen?, h3]⟩
    rw [hn] at hl h4 ⊢
    refine (reverse_some g c n l w hn hl h4 hcell).mono ?_
    rintro e w' ⟨rfl, q1, q2⟩
    refine ⟨rfl, fun j u hu => ⟨_, rfl, ?_⟩, q2.mono (fun i hi e => by subst e; rfl)⟩
    have hj := (List.getElem?_eq_some_iff.1 hu).1
    rw [bls_length, List.length_reverse, hn] at hj
    rw [add_plain, Nat.zero_add, q1 j hj, ← hu, bls_get, List.getElem?_reverse (by omega), hn, List.getD_eq_getElem?_getD, List.getElem?_eq_getElem (by omega)]
    rfl
set_option maxRecDepth 100000 in
set_option maxHeartbeats 2000000 in
theorem steps_one (n0 i0 : Nat) (w : World) (hT : 2 < w.heap.size) (hi0 : i0 < n0) (hn0 : n0 ≤ 18446744073709551615) :
    Calls Tryd.prog 30 #[.int .u64 (n0 : Int), .int .u64 (i0 : Int), .func (.func 31) #[] #[]] w fun e w' => ∃ A c, e = .returned (.slice A (Cl.down Cl.one n0 i0).length c) ∧ Src w' A (bls (Cl.down Cl.one n0 i0).reverse) ∧ (Cl.down Cl.one n0 i0).length ≤ c ∧ c ≤ 9223372036854775807 ∧ Keeps (fun _ => False) w w' := by
  obtain ⟨all, hall⟩ : ∃ all, Cl.down Cl.one n0 i0 = all := ⟨_, rfl⟩
  have hl64 := Cl.down_length Cl.one_ends 64 n0 i0 (Tr.deep_le (by omega)) hi0 hn0
  rw [hall] at hl64 ⊢
  obtain ⟨b0, hb0, hb1⟩ := info_parts info_bool
  have HI : Hid (Tryd.prog.info? 4 = some b0 ∧ b0.zero = some (.bool false) ∧ b0.size = 1 ∧ b0.bytes = 1) := Lib.hid ⟨hb0, hb1⟩
  have HALL := Lib.hid hall
  have HL64 := Lib.hid hl64
  clear hall hb0 hb1 hl64
  go_enter Tryd.func30, Tryd.ntmps30
  go_wp2_with fail
  go_loopw [0, 1, 7] (fun sv iv lv wr => ∃ (sz ix : Nat) (done : List Bool), ix < sz ∧ sz ≤ n0 ∧ sv = .int .u64 (sz : Int) ∧ iv = .int .u64 (ix : Int) ∧ Hid (done ++ Cl.down Cl.one sz ix = all) ∧ Hid (wr.ownsRow w.heap.size 4 1 lv done.length (bls done)) ∧ Hid (Keeps (fun k => w.heap.size ≤ k) w wr)) (fun sv _ _ _ => (intOf sv).toNat)
  case atStart => exact ⟨n0, i0, [], hi0, Nat.le_refl _, rfl, rfl, HALL, Lib.hid (World.ownsRow_nil _ _ _ _), Lib.hid (Keeps.refl _ _)⟩
  case round =>
    obtain ⟨sz, ix, done, hix, hsz, rfl, rfl, HD, HO, HK⟩ := hrel
    have hth := one_any sz ix wr (by omega) (by omega)
    cases hthere : Cl.one sz ix with
    | false =>
      rw [hthere] at hth
      obtain ⟨h2, hdown⟩ := Cl.down_more Cl.one_ends hthere hix (by omega)
      have hsp := split_any sz wr (by omega)
      have a1 := Tr.split_pos h2
      have a2 := Tr.split_lt h2
      have hdl : done.length ≤ 64 := by have h1 := HD.out; have h3 := HL64.out; rw [← h1, List.length_append] at h3; omega
      have hd' := HD.out
      rw [hdown] at hd'
      obtain ⟨k, hk⟩ : ∃ k, Tr.split sz = k := ⟨_, rfl⟩
      rw [hk] at hsp a1 a2 hd'
      have HTH := Lib.hid hth
      have HSP := Lib.hid hsp
      have hsl := HK.out.size
      by_cases hik : ix < k
      · rw [if_pos hik, decide_eq_true hik] at hd'
        have HD2 := Lib.hid hd'
        have hi1 : (ix : Int) < k := by omega
        clear hd' hth hsp hthere hdown hk HD
        go_wp2_with (first
          | (go_at_call 31; refine HTH.out.mono ?_; rintro e w7 ⟨rfl, h7⟩; obtain rfl : wr = w7 := h7.symm)
          | (go_at_call 25; refine HSP.out.mono ?_; rintro e w8 ⟨rfl, h8⟩; obtain rfl : wr = w8 := h8.symm)
          | (refine wpList_append_src (wr.alloc (.cells #[.bool true] 4)) (by rfl) (.tmp 28) (.tmp 30) 68 (by rfl) w.heap.size 4 b0 (.bool false) 1 Tryd.underlying68 HI.out.1 HI.out.2.1 HI.out.2.2.1 HI.out.2.2.2 rfl _ _ _ (by rfl) (HO.out.alloc _) (some ⟨wr.heap.size, 0, none⟩) 1 1 (bls [true]) (by rfl) rfl (src_new (heap_alloc_new wr _)) (bls_one _) (by unfold maxLen; omega) (by omega) (by simp; omega) ?_; intro v3 w3 ho3 hg3 _; have HO3 := Lib.hid ho3; have HK3 : Hid (Keeps (fun k => w.heap.size ≤ k) w w3) := Lib.hid ((HK.out.alloc _).grown hg3 (fun k hk e => (HO.out.lt k e).1)); clear ho3 hg3))
        go_roundw
        case rel => exact ⟨k, ix, done ++ [true], hik, by omega, rfl, rfl, Lib.hid (by have := HD2.out; simpa using this), by rw [List.length_append, bls_snoc]; exact HO3, HK3⟩
        case measure => simp [intOf]; omega
      · rw [if_neg hik, decide_eq_false hik] at hd'
        have HD2 := Lib.hid hd'
        have hi1 : (k : Int) ≤ ix := by omega
        have hi2 : (ix : Int) < sz := by omega
        have hk1 : (k : Int) < sz := by omega
        have hs1 : (sz : Int) ≤ 18446744073709551615 := by omega
        clear hd' hth hsp hthere hdown hk HD
        go_wp2_with (first
          | (go_at_call 31; refine HTH.out.mono ?_; rintro e w7 ⟨rfl, h7⟩; obtain rfl : wr = w7 := h7.symm)
          | (go_at_call 25; refine HSP.out.mono ?_; rintro e w8 ⟨rfl, h8⟩; obtain rfl : wr = w8 := h8.symm)
          | (refine wpList_append_src (wr.alloc (.cells #[.bool false] 4)) (by rfl) (.tmp 28) (.tmp 30) 68 (by rfl) w.heap.size 4 b0 (.bool false) 1 Tryd.underlying68 HI.out.1 HI.out.2.1 HI.out.2.2.1 HI.out.2.2.2 rfl _ _ _ (by rfl) (HO.out.alloc _) (some ⟨wr.heap.size, 0, none⟩) 1 1 (bls [false]) (by rfl) rfl (src_new (heap_alloc_new wr _)) (bls_one _) (by unfold maxLen; omega) (by omega) (by simp; omega) ?_; intro v3 w3 ho3 hg3 _; have HO3 := Lib.hid ho3; have HK3 : Hid (Keeps (fun k => w.heap.size ≤ k) w w3) := Lib.hid ((HK.out.alloc _).grown hg3 (fun k hk e => (HO.out.lt k e).1)); clear ho3 hg3))
        go_roundw
        case rel => exact ⟨sz - k, ix - k, done ++ [false], by omega, by omega, by congr 1; omega, by congr 1; omega, Lib.hid (by have := HD2.out; simpa using this), by rw [List.length_append, bls_snoc]; exact HO3, HK3⟩
        case measure => simp [intOf]; omega
    | true =>
      rw [hthere] at hth
      have hd' := HD.out
      rw [Cl.down_there hthere, List.append_nil] at hd'
      subst hd'
      have HTH := Lib.hid hth
      obtain ⟨A, c, rfl⟩ := own_slice HO.out
      have hrev := fun W (hW : Keeps (fun _ => False) wr W) => reverse_any w.heap.size A c done W (hW.owns HO.out (fun _ _ => id)) (by have := HL64.out; omega)
      have HREV := Lib.hid (hrev wr (Keeps.refl _ _))
      obtain ⟨hcap0, hcap1, hcap2⟩ := own_cap HO.out
      have HOL := Lib.hid HO.out.lt
      clear hth hthere hrev HD
      go_wp2_with (first
        | (go_at_call 31; refine HTH.out.mono ?_; rintro e w7 ⟨rfl, h7⟩; obtain rfl : wr = w7 := h7.symm)
        | (go_at_call 40; refine HREV.out.mono ?_; rintro e w9 ⟨rfl, h9, k9⟩))
      go_ret
      exact ⟨A, c, rfl, h9, hcap1, hcap2, (HK.out.trans' k9 (fun i hi e => by have := HOL.out i e; exact this.1)).mono (fun i hi h => by omega)⟩
set_option maxRecDepth 100000 in
set_option maxHeartbeats 2000000 in
theorem steps_last (n0 i0 : Nat) (w : World) (hT : 2 < w.heap.size) (hi0 : i0 < n0) (hn0 : n0 ≤ 18446744073709551615) :
    Calls Tryd.prog 30 #[.int .u64 (n0 : Int), .int .u64 (i0 : Int), .func (.func 37) #[] #[]] w fun e w' => ∃ A c, e = .returned (.slice A (Cl.down Cl.last n0 i0).length c) ∧ Src w' A (bls (Cl.down Cl.last n0 i0).reverse) ∧ (Cl.down Cl.last n0 i0).length ≤ c ∧ c ≤ 9223372036854775807 ∧ Keeps (fun _ => False) w w' := by
  obtain ⟨all, hall⟩ : ∃ all, Cl.down Cl.last n0 i0 = all := ⟨_, rfl⟩
  have hl64 := Cl.down_length Cl.last_ends 64 n0 i0 (Tr.deep_le (by omega)) hi0 hn0
  rw [hall] at hl64 ⊢
  obtain ⟨b0, hb0, hb1⟩ := info_parts info_bool
  have HI : Hid (Tryd.prog.info? 4 = some b0 ∧ b0.zero = some (.bool false) ∧ b0.size = 1 ∧ b0.bytes = 1) := Lib.hid ⟨hb0, hb1⟩
  have HALL := Lib.hid hall
  have HL64 := Lib.hid hl64
  clear hall hb0 hb1 hl64
  go_enter Tryd.func30, Tryd.ntmps30
  go_wp2_with fail
  go_loopw [0, 1, 7] (fun sv iv lv wr => ∃ (sz ix : Nat) (done : List Bool), ix < sz ∧ sz ≤ n0 ∧ sv = .int .u64 (sz : Int) ∧ iv = .int .u64 (ix : Int) ∧ Hid (done ++ Cl.down Cl.last sz ix = all) ∧ Hid (wr.ownsRow w.heap.size 4 1 lv done.length (bls done)) ∧ Hid (Keeps (fun k => w.heap.size ≤ k) w wr)) (fun sv _ _ _ => (intOf sv).toNat)
  case atStart => exact ⟨n0, i0, [], hi0, Nat.le_refl _, rfl, rfl, HALL, Lib.hid (World.ownsRow_nil _ _ _ _), Lib.hid (Keeps.refl _ _)⟩
  case round =>
    obtain ⟨sz, ix, done, hix, hsz, rfl, rfl, HD, HO, HK⟩ := hrel
    have hth := last_any sz ix wr (by omega) (by omega)
    cases hthere : Cl.last sz ix with
    | false =>
      rw [hthere] at hth
      obtain ⟨h2, hdown⟩ := Cl.down_more Cl.last_ends hthere hix (by omega)
      have hsp := split_any sz wr (by omega)
      have a1 := Tr.split_pos h2
      have a2 := Tr.split_lt h2
      have hdl : done.length ≤ 64 := by have h1 := HD.out; have h3 := HL64.out; rw [← h1, List.length_append] at h3; omega
      have hd' := HD.out
      rw [hdown] at hd'
      obtain ⟨k, hk⟩ : ∃ k, Tr.split sz = k := ⟨_, rfl⟩
      rw [hk] at hsp a1 a2 hd'
      have HTH := Lib.hid hth
      have HSP := Lib.hid hsp
      have hsl := HK.out.size
      by_cases hik : ix < k
      · rw [if_pos hik, decide_eq_true hik] at hd'
        have HD2 := Lib.hid hd'
        have hi1 : (ix : Int) < k := by omega
        clear hd' hth hsp hthere hdown hk HD
        go_wp2_with (first
          | (go_at_call 37; refine HTH.out.mono ?_; rintro e w7 ⟨rfl, h7⟩; obtain rfl : wr = w7 := h7.symm)
          | (go_at_call 25; refine HSP.out.mono ?_; rintro e w8 ⟨rfl, h8⟩; obtain rfl : wr = w8 := h8.symm)
          | (refine wpList_append_src (wr.alloc (.cells #[.bool true] 4)) (by rfl) (.tmp 28) (.tmp 30) 68 (by rfl) w.heap.size 4 b0 (.bool false) 1 Tryd.underlying68 HI.out.1 HI.out.2.1 HI.out.2.2.1 HI.out.2.2.2 rfl _ _ _ (by rfl) (HO.out.alloc _) (some ⟨wr.heap.size, 0, none⟩) 1 1 (bls [true]) (by rfl) rfl (src_new (heap_alloc_new wr _)) (bls_one _) (by unfold maxLen; omega) (by omega) (by simp; omega) ?_; intro v3 w3 ho3 hg3 _; have HO3 := Lib.hid ho3; have HK3 : Hid (Keeps (fun k => w.heap.size ≤ k) w w3) := Lib.hid ((HK.out.alloc _).grown hg3 (fun k hk e => (HO.out.lt k e).1)); clear ho3 hg3))
        go_roundw
        case rel => exact ⟨k, ix, done ++ [true], hik, by omega, rfl, rfl, Lib.hid (by have := HD2.out; simpa using this), by rw [List.length_append, bls_snoc]; exact HO3, HK3⟩
        case measure => simp [intOf]; omega
      · rw [if_neg hik, decide_eq_false hik] at hd'
        have HD2 := Lib.hid hd'
        have hi1 : (k : Int) ≤ ix := by omega
        have hi2 : (ix : Int) < sz := by omega
        have hk1 : (k : Int) < sz := by omega
        have hs1 : (sz : Int) ≤ 18446744073709551615 := by omega
        clear hd' hth hsp hthere hdown hk HD
        go_wp2_with (first
          | (go_at_call 37; refine HTH.out.mono ?_; rintro e w7 ⟨rfl, h7⟩; obtain rfl : wr = w7 := h7.symm)
          | (go_at_call 25; refine HSP.out.mono ?_; rintro e w8 ⟨rfl, h8⟩; obtain rfl : wr = w8 := h8.symm)
          | (refine wpList_append_src (wr.alloc (.cells #[.bool false] 4)) (by rfl) (.tmp 28) (.tmp 30) 68 (by rfl) w.heap.size 4 b0 (.bool false) 1 Tryd.underlying68 HI.out.1 HI.out.2.1 HI.out.2.2.1 HI.out.2.2.2 rfl _ _ _ (by rfl) (HO.out.alloc _) (some ⟨wr.heap.size, 0, none⟩) 1 1 (bls [false]) (by rfl) rfl (src_new (heap_alloc_new wr _)) (bls_one _) (by unfold maxLen; omega) (by omega) (by simp; omega) ?_; intro v3 w3 ho3 hg3 _; have HO3 := Lib.hid ho3; have HK3 : Hid (Keeps (fun k => w.heap.size ≤ k) w w3) := Lib.hid ((HK.out.alloc _).grown hg3 (fun k hk e => (HO.out.lt k e).1)); clear ho3 hg3))
        go_roundw
        case rel => exact ⟨sz - k, ix - k, done ++ [false], by omega, by omega, by congr 1; omega, by congr 1; omega, Lib.hid (by have := HD2.out; simpa using this), by rw [List.length_append, bls_snoc]; exact HO3, HK3⟩
        case measure => simp [intOf]; omega
    | true =>
      rw [hthere] at hth
      have hd' := HD.out
      rw [Cl.down_there hthere, List.append_nil] at hd'
      subst hd'
      have HTH := Lib.hid hth
      obtain ⟨A, c, rfl⟩ := own_slice HO.out
      have hrev := fun W (hW : Keeps (fun _ => False) wr W) => reverse_any w.heap.size A c done W (hW.owns HO.out (fun _ _ => id)) (by have := HL64.out; omega)
      have HREV := Lib.hid (hrev wr (Keeps.refl _ _))
      obtain ⟨hcap0, hcap1, hcap2⟩ := own_cap HO.out
      have HOL := Lib.hid HO.out.lt
      clear hth hthere hrev HD
      go_wp2_with (first
        | (go_at_call 37; refine HTH.out.mono ?_; rintro e w7 ⟨rfl, h7⟩; obtain rfl : wr = w7 := h7.symm)
        | (go_at_call 40; refine HREV.out.mono ?_; rintro e w9 ⟨rfl, h9, k9⟩))
      go_ret
      exact ⟨A, c, rfl, h9, hcap1, hcap2, (HK.out.trans' k9 (fun i hi e => by have := HOL.out i e; exact this.1)).mono (fun i hi h => by omega)⟩
end Go.Proofs.YtjblnjeloimbgaaDoor
